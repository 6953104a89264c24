"""Houses that are told as a tuple and taken of it."""

import random
import unittest

from corehouse.house import House, diary, key, load, run, seen, set_switches, start
from corehouse.people import alone, picture
from corehouse.saving import saved, taken
from helpers import (
    ASK,
    ECHO,
    GO,
    HALT,
    KEEPER,
    LISTEN,
    LOOK,
    PROGRAMS,
    SAY,
    SPIN,
    STATES,
    TALKER,
    cells_with,
    chance_cells,
    load_all,
    nap_of,
    rooms_of,
    states,
    told,
    turns,
    whole,
)


def started(programs, rooms, quantum, beat):
    house = House(len(programs), rooms, quantum, beat)
    load_all(house, programs)
    for user in range(len(programs)):
        start(house, user, 0)
    return house


def mixed():
    """Eight users in three rooms: one runs, some stand in the row, others hear, say, sleep and are stopped."""
    house = started([LISTEN, nap_of(50), HALT, TALKER, SPIN, KEEPER, SPIN, SPIN], 3, 3, 30)
    set_switches(house, 5, 300)
    for letter in (2, 3, 4):
        key(house, 5, letter)
    for letter in range(18):
        key(house, 2, letter)
    run(house, 328)
    return house


class SavingChecks:
    def check_told(self, value):
        """Whole numbers, texts, None and tuples of these, at every depth."""
        self.assertIn(type(value), (int, str, type(None), tuple))
        if type(value) is tuple:
            for inner in value:
                self.check_told(inner)

    def check_house(self, house, users):
        """The house is told, nothing of it is changed, and what is taken is alike; it is given back."""
        ahead = whole(house, users)
        shape = saved(house)
        self.assertIs(type(shape), tuple)
        self.check_told(shape)
        self.assertEqual(whole(house, users), ahead)
        other = taken(shape)
        self.assertIsInstance(other, House)
        self.check_kinds(other, users)
        self.assertEqual(whole(other, users), ahead)
        self.assertEqual(saved(other), shape)
        self.check_told(saved(other))
        return other

    def check_kinds(self, house, users):
        self.assertIs(type(house.row), list)
        self.assertIn(type(house.runs), (int, type(None)))
        for name in ("steps", "idle", "ticks", "swaps", "turn", "left"):
            self.assertIs(type(getattr(house, name)), int, name)
        for user in range(users):
            self.assertIs(type(diary(house, user)), list)
            self.assertLessEqual({type(event) for event in diary(house, user)}, {tuple})
            self.assertIs(type(seen(house, user)), tuple)


class TakenTest(SavingChecks, unittest.TestCase):
    def test_a_house_at_first(self):
        for users in range(1, 9):
            for rooms in range(1, 9):
                house = House(users, rooms, 3, 5)
                other = self.check_house(house, users)
                self.assertEqual(turns(other), (None, (), 0, 0, 0))
                self.assertEqual(rooms_of(other, users), [None] * users)

    def test_a_house_that_runs(self):
        house = started([SPIN, SPIN, SPIN], 2, 4, 3)
        run(house, 17)
        other = self.check_house(house, 3)
        self.assertEqual(turns(other), (1, (2, 0), 3, 0, 2))
        self.assertEqual((other.steps, other.idle, other.ticks), (17, 0, 5))
        self.assertEqual(rooms_of(other, 3), [0, 1, None])

    def test_users_that_wait_sleep_and_are_stopped(self):
        house = mixed()
        self.assertEqual(sorted(set(states(house, 8))), sorted(STATES))
        other = self.check_house(house, 8)
        self.assertEqual(states(other, 8), states(house, 8))
        self.assertEqual(len([room for room in rooms_of(other, 8) if room is not None]), 3)
        self.assertEqual((len(seen(other, 2)[4]), seen(other, 2)[11]), (16, 2))

    def test_a_house_where_none_runs(self):
        house = started([LISTEN, HALT], 1, 3, 2)
        run(house, 9)
        other = self.check_house(house, 2)
        self.assertEqual((turns(other), other.idle), ((None, (), 0, 0, 2), 7))

    def test_more_rooms_than_users(self):
        house = started([SPIN, LISTEN], 8, 1, 1)
        run(house, 5)
        self.check_house(house, 2)

    def test_the_turn_goes_on_where_it_was(self):
        house = started([SPIN, SPIN], 1, 3, 4)
        run(house, 9)
        other = taken(saved(house))
        self.assertEqual(turns(other), (0, (1,), 1, 0, 1))
        run(other, 2)
        self.assertEqual(turns(other), (0, (1,), 1, 0, 1))
        run(other, 1)
        self.assertEqual(turns(other), (1, (0,), 3, 0, 2))

    def test_the_beat_and_the_quantum_go_on(self):
        for quantum in (1, 2, 64):
            for beat in (1, 2, 7, 100):
                house = started([SPIN, SPIN], 1, quantum, beat)
                run(house, beat + 1)
                other = taken(saved(house))
                for count in range(3 * beat):
                    run(house, 1)
                    run(other, 1)
                    self.assertEqual(whole(other, 2), whole(house, 2))

    def test_the_turn_of_rooms_goes_on(self):
        house = started([SPIN] * 4, 3, 1, 1)
        for count in range(12):
            other = taken(saved(house))
            run(house, 1)
            run(other, 1)
            self.assertEqual((rooms_of(other, 4), turns(other)), (rooms_of(house, 4), turns(house)))

    def test_a_nap_goes_on(self):
        house = started([nap_of(5)], 1, 1, 1)
        run(house, 4)
        other = taken(saved(house))
        self.assertEqual((states(other, 1), seen(other, 0)[10]), (["sleeps"], 2))
        run(other, 1)
        self.assertEqual((states(other, 1), seen(other, 0)[10]), (["sleeps"], 1))
        run(other, 1)
        self.assertEqual((states(other, 1), seen(other, 0)[10], other.runs), (["ready"], 0, 0))

    def test_one_that_hears_goes_on_by_a_key(self):
        house = started([LISTEN, SPIN], 1, 5, 1)
        run(house, 2)
        other = taken(saved(house))
        self.assertEqual((states(other, 2), other.runs), (["hears", "ready"], 1))
        key(other, 0, 77)
        self.assertEqual((states(other, 2), other.row), (["ready", "ready"], [0]))
        run(other, 5)
        self.assertEqual(seen(other, 0)[1], 77)

    def test_one_that_says_goes_on_by_a_tick(self):
        house = started([TALKER], 1, 64, 100)
        run(house, 60)
        other = taken(saved(house))
        self.assertEqual((states(other, 1), len(seen(other, 0)[5]), other.runs), (["says"], 16, None))
        run(other, 40)
        self.assertEqual((states(other, 1), len(seen(other, 0)[5]), other.runs), (["ready"], 15, 0))
        self.assertEqual(seen(other, 0)[6], (0,))

    def test_one_that_is_stopped_goes_on_by_a_start(self):
        house = started([HALT], 1, 1, 1)
        run(house, 3)
        other = taken(saved(house))
        start(other, 0, 9)
        self.assertEqual((states(other, 1), seen(other, 0)[3], other.runs), (["ready"], 9, 0))

    def test_letters_blocks_and_switches(self):
        house = started([KEEPER, {0: told(ASK, 0, LOOK), 1: told(ASK, 0, SAY), 2: told(GO, 0, 0)}], 1, 9, 9)
        set_switches(house, 1, 501)
        for letter in range(1, 20):
            key(house, 0, letter)
        run(house, 300)
        other = self.check_house(house, 2)
        self.assertNotEqual(seen(other, 0)[7], ((0,) * 16,) * 4)
        self.assertEqual((seen(other, 0)[11], seen(other, 1)[8]), (3, 501))
        self.assertGreater(len(seen(other, 1)[6]), 5)

    def test_diaries_go_on(self):
        house = started([ECHO, SPIN], 1, 2, 2)
        key(house, 0, 5)
        run(house, 7)
        other = taken(saved(house))
        ahead = [diary(house, 0), diary(house, 1)]
        key(other, 1, 9)
        run(other, 1)
        self.assertEqual(diary(other, 1), ahead[1] + [("key", 9)] + diary(other, 1)[len(ahead[1]) + 1 :])
        self.assertEqual([diary(house, 0), diary(house, 1)], ahead)
        for user, program in enumerate((ECHO, SPIN)):
            self.assertEqual(picture(alone(cells_with(program), 0, diary(other, user))), seen(other, user))

    def test_arguments_bear_their_names(self):
        house = started([SPIN], 1, 1, 1)
        self.assertEqual(saved(house=taken(told=saved(house))), saved(house))

    def test_numbers_somewhat_beyond_are_not_refused(self):
        house = started([SPIN] * 9, 9, 65, 101)
        run(house, 500)
        self.check_house(house, 9)


class ApartTest(SavingChecks, unittest.TestCase):
    def changes(self):
        return {
            "run": lambda house: run(house, 40),
            "key": lambda house: [key(house, user, 9) for user in range(8)],
            "start": lambda house: [start(house, user, 1) for user in range(8)],
            "load": lambda house: [load(house, user, list(range(64))) for user in range(8)],
            "switches": lambda house: [set_switches(house, user, 11) for user in range(8)],
        }

    def test_neither_knows_of_the_other(self):
        for name, change in self.changes().items():
            with self.subTest(change=name):
                house = mixed()
                shape = saved(house)
                ahead = whole(house, 8)
                other = taken(shape)
                third = taken(shape)
                change(other)
                self.assertNotEqual(whole(other, 8), ahead)
                self.assertEqual(whole(house, 8), ahead)
                self.assertEqual(whole(third, 8), ahead)
                self.assertEqual((saved(house), saved(third)), (shape, shape))
                change(house)
                self.assertEqual(whole(third, 8), ahead)
                self.assertEqual(whole(house, 8), whole(other, 8))
                self.assertEqual(saved(house), saved(other))

    def test_what_was_told_stays(self):
        house = mixed()
        shape = saved(house)
        again = saved(mixed())
        run(house, 50)
        run(taken(shape), 50)
        self.assertEqual(shape, again)
        self.assertEqual(whole(taken(shape), 8), whole(mixed(), 8))

    def test_the_row_of_one_is_not_that_of_the_other(self):
        house = started([SPIN, SPIN, SPIN], 1, 1, 1)
        other = taken(saved(house))
        other.row.clear()
        self.assertEqual(house.row, [1, 2])

    def test_unlike_houses_are_told_by_unlike_tuples(self):
        unlike = [
            House(2, 2, 2, 2),
            House(3, 2, 2, 2),
            House(2, 3, 2, 2),
            House(2, 2, 3, 2),
            House(2, 2, 2, 3),
        ]
        for number in range(9):
            unlike.append(House(2, 2, 2, 2))
        load(unlike[5], 1, cells_with(SPIN))
        set_switches(unlike[6], 0, 1)
        set_switches(unlike[7], 1, 1)
        start(unlike[8], 0, 0)
        start(unlike[9], 1, 0)
        start(unlike[10], 1, 5)
        key(unlike[11], 0, 1)
        run(unlike[12], 1)
        run(unlike[13], 2)
        shapes = [saved(house) for house in unlike]
        for number, shape in enumerate(shapes):
            self.assertEqual(shapes.count(shape), 1, number)
        self.assertEqual(saved(House(2, 2, 2, 2)), shapes[0])


class AlikeTest(SavingChecks, unittest.TestCase):
    def test_runs_at_once_and_cut_into_parts(self):
        chance = random.Random(1)
        for users, rooms, quantum, beat in ((1, 1, 1, 1), (3, 2, 2, 1), (8, 3, 3, 5), (5, 8, 1, 100), (8, 1, 2, 3)):
            programs = [chance.choice(PROGRAMS) for number in range(users)]
            houses = [started(programs, rooms, quantum, beat) for number in range(3)]
            for house in houses:
                for user in range(users):
                    key(house, user, 3 + user)
            run(houses[0], 500)
            left = 500
            while left > 0:
                part = min(left, chance.randrange(30))
                run(houses[1], part)
                run(houses[2], 0)
                run(houses[2], part)
                houses[2] = taken(saved(houses[2]))
                left -= part
            self.assertEqual(saved(houses[1]), saved(houses[0]))
            self.assertEqual(saved(houses[2]), saved(houses[0]))

    def test_cells_handed_in_as_a_list_and_as_a_tuple(self):
        shapes = []
        for kind in (list, tuple):
            house = House(1, 1, 1, 1)
            load(house, 0, kind(cells_with(TALKER)))
            start(house, 0, 0)
            run(house, 10)
            shapes.append(saved(house))
        self.assertEqual(shapes[0], shapes[1])

    def act(self, chance, houses, users):
        """Something happens to all of the houses alike."""
        user = chance.randrange(users)
        what = chance.randrange(12)
        place = chance.choice((0, 0, chance.randrange(64)))
        number = chance.randrange(256)
        cells = chance_cells(chance) if chance.randrange(2) else cells_with(chance.choice(PROGRAMS))
        for house in houses:
            if what < 2:
                start(house, user, place)
            elif what < 4:
                key(house, user, number)
            elif what < 5:
                set_switches(house, user, number * 4)
            elif what < 6:
                load(house, user, cells)
            else:
                run(house, number % 8)

    def test_a_taken_house_goes_on_just_as_the_one_that_was_told(self):
        chance = random.Random(2)
        met = set()
        for users in range(1, 9):
            for rooms in (1, 2, 3, 5, 8):
                quantum, beat = chance.choice(((1, 1), (2, 1), (1, 3), (3, 2), (64, 2), (2, 100)))
                with self.subTest(users=users, rooms=rooms, quantum=quantum, beat=beat):
                    programs = [chance.choice(PROGRAMS) for number in range(users)]
                    house = started(programs, rooms, quantum, beat)
                    others = []
                    for count in range(60):
                        if count % 15 == 7:
                            others.append(self.check_house(house, users))
                        self.act(chance, [house] + others, users)
                        for other in others:
                            self.assertEqual(whole(other, users), whole(house, users))
                        met.update(states(house, users))
                    for other in others:
                        self.assertEqual(saved(other), saved(house))
        self.assertEqual(met, set(STATES))

    def test_a_house_that_is_told_and_taken_behind_every_step(self):
        chance = random.Random(3)
        for users, rooms, quantum, beat in ((1, 1, 1, 1), (4, 2, 2, 3), (8, 3, 1, 2), (3, 8, 5, 1)):
            programs = [chance.choice(PROGRAMS) for number in range(users)]
            house = started(programs, rooms, quantum, beat)
            other = taken(saved(house))
            for count in range(150):
                self.act(chance, [house, other], users)
                self.assertEqual(whole(other, users), whole(house, users))
                other = taken(saved(other))
            self.assertEqual(saved(other), saved(house))


if __name__ == "__main__":
    unittest.main()
