"""The diaries, and houses against users by themselves and against another way to tell the turns and rooms."""

import random
import unittest

from corehouse.house import House, diary, key, load, room_of, run, seen, set_switches, start
from corehouse.people import Person, alone, happen, picture
from helpers import (
    ECHO,
    HALT,
    KEEPER,
    LISTEN,
    PROGRAMS,
    SPIN,
    STATES,
    TALKER,
    cells_with,
    chance_cells,
    load_all,
    nap_of,
    rooms_of,
    turns,
)

STEP = ("step",)
TICK = ("tick",)


class DiaryTest(unittest.TestCase):
    def test_starts_and_keys_as_they_were_told(self):
        house = House(2, 1, 1, 1)
        load(house, 0, cells_with(SPIN))
        start(house, 0, 0)
        start(house, 0, 63)
        key(house, 0, 255)
        key(house, 1, 0)
        start(house, 1, 7)
        self.assertEqual(diary(house, 0), [("start", 0), ("start", 63), ("key", 255)])
        self.assertEqual(diary(house, 1), [("key", 0), ("start", 7)])

    def test_those_that_changed_nothing_stand_there_too(self):
        house = House(1, 1, 1, 100)
        load(house, 0, cells_with(SPIN))
        expected = []
        for letter in range(20):
            key(house, 0, letter)
            expected.append(("key", letter))
        for place in (0, 5, 6):
            start(house, 0, place)
            expected.append(("start", place))
        self.assertEqual(diary(house, 0), expected)

    def test_steps_of_who_runs_and_ticks_of_all_in_order(self):
        house = House(3, 2, 2, 2)
        load_all(house, [SPIN, SPIN, SPIN])
        start(house, 1, 0)
        start(house, 0, 0)
        run(house, 5)
        self.assertEqual(diary(house, 0), [("start", 0), TICK, TICK, STEP])
        self.assertEqual(diary(house, 1), [("start", 0), STEP, STEP, TICK, STEP, STEP, TICK])
        self.assertEqual(diary(house, 2), [TICK, TICK])
        key(house, 2, 9)
        run(house, 1)
        self.assertEqual(diary(house, 0), [("start", 0), TICK, TICK, STEP, STEP, TICK])
        self.assertEqual(diary(house, 1), [("start", 0), STEP, STEP, TICK, STEP, STEP, TICK, TICK])
        self.assertEqual(diary(house, 2), [TICK, TICK, ("key", 9), TICK])

    def test_one_that_waits_has_no_steps(self):
        house = House(2, 1, 1, 2)
        load_all(house, [LISTEN, HALT])
        start(house, 0, 0)
        start(house, 1, 0)
        run(house, 6)
        self.assertEqual(diary(house, 0), [("start", 0), STEP, TICK, TICK, TICK])
        self.assertEqual(diary(house, 1), [("start", 0), STEP, TICK, TICK, TICK])
        key(house, 0, 4)
        run(house, 1)
        self.assertEqual(diary(house, 0)[5:], [("key", 4), STEP])

    def test_a_step_ahead_of_its_tick(self):
        house = House(1, 1, 1, 1)
        load_all(house, [nap_of(1)])
        start(house, 0, 0)
        run(house, 4)
        self.assertEqual(diary(house, 0), [("start", 0)] + [STEP, TICK] * 4)

    def test_load_and_set_switches_do_not_stand_there(self):
        house = House(1, 1, 1, 100)
        load(house, 0, cells_with(SPIN))
        set_switches(house, 0, 5)
        start(house, 0, 0)
        load(house, 0, cells_with(SPIN))
        set_switches(house, 0, 6)
        run(house, 1)
        self.assertEqual(diary(house, 0), [("start", 0), STEP])

    def test_a_new_list_each_time(self):
        house = House(1, 1, 1, 1)
        load_all(house, [SPIN])
        start(house, 0, 0)
        first = diary(house, 0)
        run(house, 1)
        self.assertEqual(first, [("start", 0)])
        second = diary(house, 0)
        second.clear()
        self.assertEqual(diary(house, 0), [("start", 0), STEP, TICK])
        self.assertIs(type(diary(house, 0)), list)
        self.assertEqual({type(event) for event in diary(house, 0)}, {tuple})


class Model:
    """A house told another way: by the order in which users became ready, and by all comings into a room."""

    def __init__(self, users, rooms, quantum, beat):
        self.people = [Person([0] * 64, 0) for number in range(users)]
        self.diaries = [[] for number in range(users)]
        self.rooms, self.quantum, self.beat = rooms, quantum, beat
        self.runs = None
        self.since = 0
        self.became_ready = {}
        self.tickets = 0
        self.comings = []
        self.steps = self.idle = self.ticks = 0

    def row(self):
        ready = [user for user, person in enumerate(self.people) if person.state == "ready" and user != self.runs]
        return tuple(sorted(ready, key=lambda user: self.became_ready[user]))

    def draw_ticket(self, user):
        self.tickets += 1
        self.became_ready[user] = self.tickets

    def event(self, user, event):
        ahead = self.people[user].state
        self.diaries[user].append(event)
        happen(self.people[user], event)
        if (ahead, self.people[user].state) in [(name, "ready") for name in ("stopped", "hears", "says", "sleeps")]:
            self.draw_ticket(user)

    def told(self, user, event):
        self.event(user, event)
        self.settle()

    def settle(self):
        if self.runs is None and self.row():
            self.runs = self.row()[0]
            self.since = self.ticks
            if self.room_of(self.runs) is None:
                self.comings.append(self.runs)

    def room_of(self, user):
        for coming in reversed(range(max(0, len(self.comings) - self.rooms), len(self.comings))):
            if self.comings[coming] == user:
                return coming % self.rooms
        return None

    def step(self):
        self.steps += 1
        if self.runs is None:
            self.idle += 1
        else:
            user = self.runs
            self.event(user, STEP)
            if self.people[user].state != "ready":
                self.runs = None
        if self.steps // self.beat > self.ticks:
            self.ticks += 1
            for user in range(len(self.people)):
                self.event(user, TICK)
            if self.runs is not None and self.ticks - self.since == self.quantum:
                self.draw_ticket(self.runs)
                self.runs = None
        self.settle()

    def turns(self):
        left = 0 if self.runs is None else self.quantum - (self.ticks - self.since)
        return (self.runs, self.row(), left, len(self.comings) % self.rooms, len(self.comings))


class Pair:
    """A house and its model, with all that is told to one told to the other."""

    def __init__(self, users, rooms, quantum, beat, cells):
        self.users = users
        self.cells = cells
        self.house = House(users, rooms, quantum, beat)
        self.model = Model(users, rooms, quantum, beat)
        for user in range(users):
            load(self.house, user, cells[user])
            self.model.people[user].machine.cells = list(cells[user])

    def tell(self, user, event):
        tell = {"start": start, "key": key}[event[0]]
        tell(self.house, user, event[1])
        self.model.told(user, event)

    def step(self):
        run(self.house, 1)
        self.model.step()


class AlikeTest(unittest.TestCase):
    def setUp(self):
        self.met = set()

    def check(self, pair):
        house = pair.house
        model = pair.model
        self.assertEqual(turns(house), model.turns())
        self.assertEqual((house.steps, house.idle, house.ticks), (model.steps, model.idle, model.ticks))
        self.assertEqual(rooms_of(house, pair.users), [model.room_of(user) for user in range(pair.users)])
        for user in range(pair.users):
            self.assertEqual(seen(house, user), picture(model.people[user]))
            self.met.add(seen(house, user)[9])

    def check_alone(self, pair):
        for user in range(pair.users):
            book = diary(pair.house, user)
            self.assertEqual(book, pair.model.diaries[user])
            self.assertEqual(seen(pair.house, user), picture(alone(pair.cells[user], 0, book)))

    def check_whole(self, pair):
        """What holds behind every step, start and key, by the points' own words."""
        house = pair.house
        ready = [user for user in range(pair.users) if seen(house, user)[9] == "ready"]
        runs = [] if house.runs is None else [house.runs]
        self.assertEqual(sorted(house.row + runs), ready)
        self.assertEqual(house.runs is None, ready == [])
        self.assertEqual(house.runs is None, house.left == 0)
        self.assertEqual(house.idle + sum(seen(house, user)[12] for user in range(pair.users)), house.steps)
        where = [room for room in rooms_of(house, pair.users) if room is not None]
        self.assertEqual(len(where), len(set(where)))
        if house.runs is not None:
            self.assertIsNotNone(room_of(house, house.runs))

    def go(self, chance, pair, steps):
        for count in range(steps):
            user = chance.randrange(pair.users)
            what = chance.randrange(8)
            if what == 0:
                pair.tell(user, ("start", chance.choice((0, 0, 0, chance.randrange(64)))))
            elif what == 1:
                pair.tell(user, ("key", chance.randrange(256)))
            else:
                pair.step()
            self.check(pair)
            self.check_whole(pair)
        self.check_alone(pair)

    def sizes(self):
        for users in range(1, 9):
            for rooms in range(1, 9):
                yield users, rooms

    def test_houses_of_all_sizes_with_written_programs(self):
        chance = random.Random(1)
        for users, rooms in self.sizes():
            for quantum, beat in ((1, 1), (1, 3), (2, 1), (3, 7), (64, 2)):
                with self.subTest(users=users, rooms=rooms, quantum=quantum, beat=beat):
                    cells = [cells_with(chance.choice(PROGRAMS)) for number in range(users)]
                    self.go(chance, Pair(users, rooms, quantum, beat, cells), 120)
        self.assertEqual(self.met, set(STATES))

    def test_houses_of_all_sizes_with_programs_by_chance(self):
        chance = random.Random(2)
        for users, rooms in self.sizes():
            for quantum, beat in ((1, 1), (2, 2), (chance.randint(1, 64), chance.randint(1, 100))):
                with self.subTest(users=users, rooms=rooms, quantum=quantum, beat=beat):
                    cells = [chance_cells(chance) for number in range(users)]
                    self.go(chance, Pair(users, rooms, quantum, beat, cells), 150)

    def test_each_user_is_as_alone_behind_every_step(self):
        cells = [cells_with(program) for program in (KEEPER, TALKER, ECHO, nap_of(2))]
        pair = Pair(4, 2, 2, 3, cells)
        chance = random.Random(3)
        for count in range(150):
            for user in range(4):
                if chance.randrange(6) == 0:
                    pair.tell(user, ("key", chance.randrange(1, 4)))
                if chance.randrange(10) == 0:
                    pair.tell(user, ("start", 0))
                self.check_alone(pair)
            pair.step()
            self.check_alone(pair)

    def test_rooms_quantum_and_beat_that_differ_leave_each_user_as_alone(self):
        for rooms in (1, 2, 3):
            for quantum in (1, 2, 5):
                for beat in (1, 2, 11):
                    pair = Pair(3, rooms, quantum, beat, [cells_with(program) for program in (TALKER, SPIN, KEEPER)])
                    for user in range(3):
                        pair.tell(user, ("key", 3))
                        pair.tell(user, ("start", 0))
                    for count in range(100):
                        pair.step()
                        self.check(pair)
                    self.check_alone(pair)

    def test_load_and_switches_at_any_time(self):
        chance = random.Random(4)
        for users, rooms in ((1, 1), (3, 1), (4, 2), (8, 3), (8, 8)):
            cells = [chance_cells(chance) for number in range(users)]
            pair = Pair(users, rooms, 2, 2, cells)
            for count in range(80):
                user = chance.randrange(users)
                row = chance_cells(chance)
                kept = list(row)
                load(pair.house, user, row)
                self.assertEqual(row, kept)
                pair.model.people[user].machine.cells = list(row)
                row[chance.randrange(64)] = 0
                word = chance.randrange(1024)
                other = chance.randrange(users)
                set_switches(pair.house, other, word)
                pair.model.people[other].switches = word
                self.check(pair)
                pair.tell(user, ("start", 0))
                for more in range(chance.randrange(12)):
                    pair.step()
                    self.check(pair)
            for user in range(users):
                self.assertEqual(diary(pair.house, user), pair.model.diaries[user])

    def test_many_steps_at_once_and_one_by_one_come_to_the_same(self):
        chance = random.Random(5)
        for users, rooms, quantum, beat in ((1, 1, 1, 1), (3, 2, 2, 1), (8, 3, 3, 5), (5, 8, 1, 100)):
            cells = [cells_with(chance.choice(PROGRAMS)) for number in range(users)]
            at_once = Pair(users, rooms, quantum, beat, cells)
            one_by_one = Pair(users, rooms, quantum, beat, cells)
            for user in range(users):
                for pair in (at_once, one_by_one):
                    pair.tell(user, ("start", 0))
                    pair.tell(user, ("key", 3 + user))
            run(at_once.house, 700)
            for count in range(700):
                one_by_one.step()
            self.check_same(at_once.house, one_by_one.house, users)
            run(at_once.house, 0)
            self.check_same(at_once.house, one_by_one.house, users)

    def check_same(self, first, second, users):
        self.assertEqual(turns(first), turns(second))
        self.assertEqual((first.steps, first.idle, first.ticks), (second.steps, second.idle, second.ticks))
        self.assertEqual(rooms_of(first, users), rooms_of(second, users))
        for user in range(users):
            self.assertEqual(seen(first, user), seen(second, user))
            self.assertEqual(diary(first, user), diary(second, user))


if __name__ == "__main__":
    unittest.main()
