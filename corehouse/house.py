"""The house: its users run by turns, and each has a diary."""

from corehouse.people import READY, Person, happen, picture
from corehouse.rooms import bring_in, empty_rooms, room_with
from corehouse.words import PLACES


class House:
    def __init__(self, users, rooms, quantum, beat):
        self.people = [Person([0] * PLACES, 0) for number in range(users)]
        self.diaries = [[] for number in range(users)]
        self.rooms = empty_rooms(rooms)
        self.quantum = quantum
        self.beat = beat
        self.runs = None
        self.row = []
        self.steps = 0
        self.idle = 0
        self.ticks = 0
        self.swaps = 0
        self.turn = 0
        self.left = 0


def load(house, user, cells):
    machine = house.people[user].machine
    machine.cells = list(cells)


def set_switches(house, user, word):
    person = house.people[user]
    person.switches = word


def start(house, user, place):
    happen_in(house, user, ("start", place))
    let_next_run(house)


def key(house, user, letter):
    happen_in(house, user, ("key", letter))
    let_next_run(house)


def run(house, count):
    for number in range(count):
        do_step(house)


def seen(house, user):
    return picture(house.people[user])


def diary(house, user):
    return list(house.diaries[user])


def room_of(house, user):
    return room_with(house.rooms, user)


def happen_in(house, user, event):
    person = house.people[user]
    was_ready = person.state == READY
    house.diaries[user].append(event)
    happen(person, event)
    if person.state == READY and not was_ready:
        house.row.append(user)


def do_step(house):
    house.steps = house.steps + 1
    if house.runs is None:
        house.idle = house.idle + 1
    else:
        step_who_runs(house)
    if house.steps % house.beat == 0:
        do_tick(house)
    let_next_run(house)


def step_who_runs(house):
    user = house.runs
    happen_in(house, user, ("step",))
    # Told ahead of the tick: a user that the tick makes ready again has lost its turn.
    if house.people[user].state != READY:
        end_turn(house)


def do_tick(house):
    house.ticks = house.ticks + 1
    for user in range(len(house.people)):
        happen_in(house, user, ("tick",))
    if house.runs is not None:
        shorten_turn(house)


def shorten_turn(house):
    house.left = house.left - 1
    if house.left == 0:
        house.row.append(house.runs)
        end_turn(house)


def end_turn(house):
    house.runs = None
    house.left = 0


def let_next_run(house):
    if house.runs is None and len(house.row) > 0:
        house.runs = house.row.pop(0)
        house.left = house.quantum
        bring_in(house, house.runs)
