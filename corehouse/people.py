"""A user: what it has, what happens to it, and what it asks."""

from corehouse.machine import Machine, deed, move_on
from corehouse.words import PLACES, WORDS

STOPPED = "stopped"
READY = "ready"
HEARS = "hears"
SAYS = "says"
SLEEPS = "sleeps"

LETTERS = 256
MOST_LETTERS = 16
BLOCKS = 4
BLOCK_WORDS = 16

HEARD = 0
HEAR = 1
ROOM = 2
SAY = 3
SLEEP = 4
FETCH = 5
STORE = 6
STOP = 7
LOOK = 8


class Person:
    def __init__(self, cells, switches):
        self.machine = Machine(cells, 0, 0, 0)
        self.inbox = []
        self.outbox = []
        self.paper = []
        self.blocks = [[0] * BLOCK_WORDS for number in range(BLOCKS)]
        self.switches = switches
        self.state = STOPPED
        self.nap = 0
        self.lost = 0
        self.done = 0


def happen(person, event):
    name = event[0]
    if name == "start":
        take_start(person, event[1])
    elif name == "key":
        take_key(person, event[1])
    elif name == "tick":
        take_tick(person)
    elif name == "step":
        take_step(person)


def take_start(person, place):
    if person.state == STOPPED:
        machine = person.machine
        machine.at = place
        person.state = READY


def take_key(person, letter):
    if len(person.inbox) < MOST_LETTERS:
        person.inbox.append(letter)
    else:
        person.lost = person.lost + 1
    if person.state == HEARS:
        person.state = READY


def take_tick(person):
    if len(person.outbox) > 0:
        person.paper.append(person.outbox.pop(0))
        if person.state == SAYS:
            person.state = READY
    if person.state == SLEEPS:
        person.nap = person.nap - 1
        if person.nap == 0:
            person.state = READY


def take_step(person):
    if person.state == READY:
        person.done = person.done + 1
        place = person.machine.at
        asked = deed(person.machine)
        if asked is not None:
            do_ask(person, asked, place)


def do_ask(person, asked, place):
    machine = person.machine
    if asked == HEARD:
        skip_if(machine, len(person.inbox) > 0)
    elif asked == HEAR:
        do_hear(person, place)
    elif asked == ROOM:
        skip_if(machine, len(person.outbox) < MOST_LETTERS)
    elif asked == SAY:
        do_say(person, place)
    elif asked == SLEEP:
        do_sleep(person)
    elif asked == FETCH or asked == STORE:
        do_with_block(person, asked)
    elif asked == STOP:
        person.state = STOPPED
    elif asked == LOOK:
        machine.total = person.switches


def skip_if(machine, so):
    if so:
        move_on(machine)


def do_hear(person, place):
    machine = person.machine
    if len(person.inbox) > 0:
        machine.total = person.inbox.pop(0)
    else:
        wait_at(person, HEARS, place)


def do_say(person, place):
    if len(person.outbox) < MOST_LETTERS:
        person.outbox.append(person.machine.total % LETTERS)
    else:
        wait_at(person, SAYS, place)


def wait_at(person, state, place):
    # The at goes back to the ask: the user asks anew as soon as it is ready.
    machine = person.machine
    machine.at = place
    person.state = state


def do_sleep(person):
    machine = person.machine
    if machine.total != 0:
        person.nap = machine.total
        machine.total = 0
        person.state = SLEEPS


def do_with_block(person, asked):
    machine = person.machine
    # The place is read and passed also where there is no such block: else it would be the next deed.
    place = machine.cells[machine.at] % PLACES
    move_on(machine)
    if machine.total >= BLOCKS:
        machine.total = WORDS - 1
        return
    block = person.blocks[machine.total]
    if asked == FETCH:
        fetch_block(machine, block, place)
    else:
        store_block(machine, block, place)
    machine.total = 0


def fetch_block(machine, block, place):
    for number in range(BLOCK_WORDS):
        machine.cells[(place + number) % PLACES] = block[number]


def store_block(machine, block, place):
    for number in range(BLOCK_WORDS):
        block[number] = machine.cells[(place + number) % PLACES]


def alone(cells, switches, events):
    person = Person(cells, switches)
    for event in events:
        happen(person, event)
    return person


def picture(person):
    machine = person.machine
    return (
        tuple(machine.cells),
        machine.total,
        machine.mark,
        machine.at,
        tuple(person.inbox),
        tuple(person.outbox),
        tuple(person.paper),
        tuple([tuple(block) for block in person.blocks]),
        person.switches,
        person.state,
        person.nap,
        person.lost,
        person.done,
    )


def person_of(told):
    person = Person(told[0], told[8])
    person.machine = Machine(told[0], told[1], told[2], told[3])
    person.inbox = list(told[4])
    person.outbox = list(told[5])
    person.paper = list(told[6])
    person.blocks = [list(block) for block in told[7]]
    person.state = told[9]
    person.nap = told[10]
    person.lost = told[11]
    person.done = told[12]
    return person
