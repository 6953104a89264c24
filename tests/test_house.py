import unittest

from corehouse.house import House, diary, key, load, room_of, run, seen, set_switches, start
from helpers import (
    ASK,
    FIELDS,
    GO,
    HALT,
    LISTEN,
    LOOK,
    NOTHING,
    RISE,
    SAY,
    SPIN,
    STOP,
    TALK,
    cells_with,
    load_all,
    nap_of,
    picture_with,
    rooms_of,
    states,
    told,
    turns,
)


def house_of(programs, rooms=8, quantum=1, beat=1):
    house = House(len(programs), rooms, quantum, beat)
    load_all(house, programs)
    return house


def started(programs, rooms=8, quantum=1, beat=1):
    house = house_of(programs, rooms, quantum, beat)
    for user in range(len(programs)):
        start(house, user, 0)
    return house


def value(house, user, name):
    return seen(house, user)[FIELDS.index(name)]


class HouseChecks:
    def check_run(self, house, *behind):
        """One step each: who runs, the row and what is left behind it."""
        for number, (runs, row, left) in enumerate(behind):
            run(house, 1)
            self.assertEqual((house.runs, house.row, house.left), (runs, row, left), f"step {number + 1}")


class NewHouseTest(unittest.TestCase):
    def test_all_fields_at_first(self):
        for users in range(1, 9):
            for rooms in range(1, 9):
                house = House(users, rooms, 3, 5)
                self.assertIsNone(house.runs)
                self.assertEqual(house.row, [])
                self.assertIs(type(house.row), list)
                for name in ("steps", "idle", "ticks", "swaps", "turn", "left"):
                    self.assertEqual(getattr(house, name), 0, name)
                    self.assertIs(type(getattr(house, name)), int, name)

    def test_users_at_first(self):
        for users in range(1, 9):
            house = House(users, 2, 1, 1)
            for user in range(users):
                self.assertEqual(seen(house, user), picture_with())
                self.assertEqual(diary(house, user), [])
                self.assertIs(type(diary(house, user)), list)
                self.assertIsNone(room_of(house, user))

    def test_arguments_bear_their_names(self):
        house = House(users=2, rooms=1, quantum=64, beat=100)
        load(house=house, user=1, cells=cells_with(SPIN))
        set_switches(house=house, user=1, word=9)
        start(house=house, user=1, place=0)
        key(house=house, user=1, letter=7)
        run(house=house, count=1)
        self.assertEqual(diary(house=house, user=1), [("start", 0), ("key", 7), ("step",)])
        self.assertEqual(room_of(house=house, user=1), 0)
        expected = picture_with(cells=SPIN, switches=9, state="ready", inbox=(7,), done=1)
        self.assertEqual(seen(house=house, user=1), expected)

    def test_all_that_changes_a_house_gives_none(self):
        house = House(1, 1, 1, 1)
        self.assertIsNone(load(house, 0, cells_with(SPIN)))
        self.assertIsNone(set_switches(house, 0, 1))
        self.assertIsNone(start(house, 0, 0))
        self.assertIsNone(key(house, 0, 1))
        self.assertIsNone(run(house, 0))
        self.assertIsNone(run(house, 3))

    def test_numbers_somewhat_beyond_are_not_refused(self):
        house = started([SPIN] * 9, rooms=9, quantum=65, beat=101)
        run(house, 101 * 65)
        self.assertEqual(turns(house), (1, (2, 3, 4, 5, 6, 7, 8, 0), 65, 2, 2))

    def test_houses_are_apart(self):
        first = started([SPIN, SPIN], 1)
        second = house_of([SPIN, SPIN], 1)
        run(first, 5)
        self.assertEqual(turns(second), (None, (), 0, 0, 0))
        self.assertEqual((second.steps, diary(second, 0), rooms_of(second, 2)), (0, [], [None, None]))


class StartAndKeyTest(HouseChecks, unittest.TestCase):
    def test_the_first_one_runs_and_others_stand_in_the_row(self):
        house = house_of([SPIN] * 4, quantum=6)
        start(house, 2, 0)
        self.assertEqual(turns(house), (2, (), 6, 1, 1))
        start(house, 3, 0)
        self.assertEqual(turns(house), (2, (3,), 6, 1, 1))
        start(house, 0, 0)
        start(house, 1, 0)
        self.assertEqual(turns(house), (2, (3, 0, 1), 6, 1, 1))
        self.assertEqual((house.steps, house.ticks, house.idle), (0, 0, 0))

    def test_the_place_is_where_it_begins(self):
        house = house_of([{40: told(GO, 0, 40)}])
        start(house, 0, 40)
        self.assertEqual((value(house, 0, "at"), value(house, 0, "state")), (40, "ready"))
        run(house, 3)
        self.assertEqual((value(house, 0, "at"), value(house, 0, "done")), (40, 3))

    def test_a_start_of_one_that_is_not_stopped_changes_nothing(self):
        house = started([SPIN, SPIN, LISTEN], quantum=2)
        run(house, 5)
        self.assertEqual(states(house, 3), ["ready", "ready", "hears"])
        for user in range(3):
            ahead = (turns(house), seen(house, user))
            start(house, user, 30)
            self.assertEqual((turns(house), seen(house, user)), ahead)
            self.assertEqual(diary(house, user)[-1], ("start", 30))

    def test_a_key_of_one_that_does_not_hear_changes_its_inbox_alone(self):
        house = house_of([SPIN, SPIN, SPIN])
        start(house, 0, 0)
        start(house, 1, 0)
        for user in range(3):
            ahead = turns(house)
            key(house, user, 65 + user)
            self.assertEqual(turns(house), ahead)
            self.assertEqual(value(house, user, "inbox"), (65 + user,))

    def test_a_key_makes_one_that_hears_ready_and_it_runs_if_none_does(self):
        house = started([LISTEN], quantum=4)
        run(house, 3)
        self.assertEqual((turns(house), states(house, 1)), ((None, (), 0, 1, 1), ["hears"]))
        key(house, 0, 9)
        self.assertEqual((turns(house), states(house, 1)), ((0, (), 4, 1, 1), ["ready"]))
        key(house, 0, 10)
        self.assertEqual(turns(house), (0, (), 4, 1, 1))
        self.assertEqual(value(house, 0, "inbox"), (9, 10))

    def test_a_key_makes_one_that_hears_ready_at_the_end_of_the_row(self):
        house = started([LISTEN, SPIN, SPIN], quantum=64)
        run(house, 2)
        self.assertEqual((house.runs, house.row), (1, [2]))
        key(house, 0, 9)
        self.assertEqual((house.runs, house.row, house.left), (1, [2, 0], 63))

    def test_a_letter_that_is_lost(self):
        house = house_of([SPIN])
        for letter in range(18):
            key(house, 0, letter)
        self.assertEqual((value(house, 0, "inbox"), value(house, 0, "lost")), (tuple(range(16)), 2))
        self.assertEqual(turns(house), (None, (), 0, 0, 0))

    def test_a_start_does_not_shorten_the_turn_of_who_runs(self):
        house = house_of([SPIN, SPIN], quantum=5)
        start(house, 0, 0)
        run(house, 3)
        start(house, 1, 0)
        self.assertEqual(turns(house), (0, (1,), 2, 1, 1))
        key(house, 0, 3)
        self.assertEqual(turns(house), (0, (1,), 2, 1, 1))


class RunTest(HouseChecks, unittest.TestCase):
    def test_0_steps(self):
        house = started([SPIN, SPIN], 1, 2, 1)
        run(house, 3)
        ahead = (turns(house), house.steps, house.idle, house.ticks, seen(house, 0), seen(house, 1))
        books = [diary(house, 0), diary(house, 1)]
        run(house, 0)
        self.assertEqual((turns(house), house.steps, house.idle, house.ticks, seen(house, 0), seen(house, 1)), ahead)
        self.assertEqual([diary(house, 0), diary(house, 1)], books)

    def test_ticks_are_the_steps_by_the_beat_rounded_down(self):
        for beat in (1, 2, 3, 7, 99, 100):
            for programs in ([SPIN], [HALT], [SPIN, LISTEN, nap_of(2)]):
                house = started(programs, beat=beat)
                for steps in range(1, 2 * beat + 3):
                    run(house, 1)
                    self.assertEqual((house.steps, house.ticks), (steps, steps // beat))
                    ticks = diary(house, 0).count(("tick",))
                    self.assertEqual(ticks, steps // beat)

    def test_steps_where_none_runs_are_idle(self):
        house = House(2, 1, 1, 3)
        run(house, 5)
        self.assertEqual((house.steps, house.idle, house.ticks), (5, 5, 1))
        self.assertEqual([value(house, user, "done") for user in range(2)], [0, 0])
        load(house, 1, cells_with(LISTEN))
        start(house, 1, 0)
        run(house, 1)
        self.assertEqual((house.steps, house.idle, house.ticks), (6, 5, 2))
        run(house, 4)
        self.assertEqual((house.steps, house.idle, house.ticks), (10, 9, 3))
        key(house, 1, 7)
        run(house, 3)
        self.assertEqual((house.steps, house.idle, house.ticks, value(house, 1, "done")), (13, 9, 4, 4))
        run(house, 1)
        self.assertEqual((house.steps, house.idle), (14, 10))

    def test_the_step_that_ends_a_turn_is_not_idle_and_the_next_one_may_be(self):
        house = started([HALT])
        run(house, 1)
        self.assertEqual((house.steps, house.idle, house.runs, house.left), (1, 0, None, 0))
        run(house, 1)
        self.assertEqual((house.steps, house.idle, house.runs, house.left), (2, 1, None, 0))

    def test_each_step_is_one_step_of_one_user(self):
        house = started([SPIN] * 3, quantum=2, beat=2)
        for steps in range(1, 40):
            run(house, 1)
            self.assertEqual(sum(value(house, user, "done") for user in range(3)), steps)

    def test_a_tick_happens_to_all_also_to_those_that_are_stopped(self):
        house = house_of([TALK, TALK], beat=3)
        start(house, 0, 0)
        run(house, 2)
        load(house, 0, cells_with(HALT))
        self.assertEqual((value(house, 0, "outbox"), value(house, 0, "paper")), ((0,), ()))
        run(house, 1)
        self.assertEqual(states(house, 2), ["stopped", "stopped"])
        self.assertEqual((value(house, 0, "outbox"), value(house, 0, "paper")), ((), (0,)))


class TurnTest(HouseChecks, unittest.TestCase):
    def test_a_turn_of_one_tick(self):
        house = started([SPIN] * 3, quantum=1, beat=1)
        self.check_run(house, (1, [2, 0], 1), (2, [0, 1], 1), (0, [1, 2], 1), (1, [2, 0], 1))

    def test_a_turn_of_two_ticks(self):
        house = started([SPIN] * 3, quantum=2, beat=1)
        self.check_run(house, (0, [1, 2], 1), (1, [2, 0], 2), (1, [2, 0], 1), (2, [0, 1], 2), (2, [0, 1], 1))

    def test_a_turn_ends_by_a_tick_alone(self):
        house = started([SPIN] * 2, quantum=2, beat=3)
        self.check_run(house, (0, [1], 2), (0, [1], 2), (0, [1], 1), (0, [1], 1), (0, [1], 1), (1, [0], 2))
        self.check_run(house, (1, [0], 2), (1, [0], 2), (1, [0], 1), (1, [0], 1), (1, [0], 1), (0, [1], 2))

    def test_a_turn_that_begins_between_ticks(self):
        house = started([HALT, SPIN], quantum=1, beat=3)
        self.check_run(house, (1, [], 1), (1, [], 1), (1, [], 1))
        start(house, 0, 0)
        self.check_run(house, (1, [0], 1), (1, [0], 1), (0, [1], 1), (1, [], 1))

    def test_one_user_has_turn_behind_turn(self):
        house = started([SPIN], quantum=3, beat=1)
        self.check_run(house, (0, [], 2), (0, [], 1), (0, [], 3), (0, [], 2), (0, [], 1), (0, [], 3))
        self.assertEqual(house.swaps, 1)

    def test_the_longest_turn(self):
        house = started([SPIN] * 2, quantum=64, beat=100)
        run(house, 6399)
        self.assertEqual(turns(house), (0, (1,), 1, 1, 1))
        run(house, 1)
        self.assertEqual(turns(house), (1, (0,), 64, 2, 2))

    def test_a_turn_that_ends_by_a_stop(self):
        house = started([{0: NOTHING, 1: told(ASK, 0, STOP)}, SPIN, SPIN], quantum=9, beat=1)
        self.check_run(house, (0, [1, 2], 8), (1, [2], 9), (1, [2], 8))
        self.assertEqual(states(house, 3), ["stopped", "ready", "ready"])
        start(house, 0, 0)
        self.assertEqual((house.runs, house.row, house.left), (1, [2, 0], 8))

    def test_a_turn_that_ends_by_waiting_for_a_letter(self):
        house = started([LISTEN, SPIN], quantum=9, beat=2)
        self.check_run(house, (1, [], 9), (1, [], 8))
        self.assertEqual(states(house, 2), ["hears", "ready"])

    def test_a_turn_that_ends_by_waiting_for_room(self):
        house = started([TALK, SPIN], quantum=64, beat=100)
        run(house, 32)
        self.assertEqual((house.runs, house.row, value(house, 0, "outbox")), (0, [1], (0,) * 16))
        self.check_run(house, (1, [], 64))
        self.assertEqual(states(house, 2), ["says", "ready"])
        run(house, 66)
        self.assertEqual((house.runs, house.row, house.left), (1, [], 64))
        self.check_run(house, (1, [0], 63))
        self.assertEqual(value(house, 0, "paper"), (0,))

    def test_a_turn_that_ends_by_sleep(self):
        house = started([nap_of(2), SPIN], quantum=9, beat=1)
        self.check_run(house, (0, [1], 8), (1, [], 9), (1, [0], 8), (1, [0], 7))
        self.assertEqual(value(house, 0, "nap"), 0)

    def test_a_sleep_of_one_that_the_steps_own_tick_ends(self):
        house = started([nap_of(1), SPIN, SPIN], quantum=9, beat=1)
        self.check_run(house, (0, [1, 2], 8), (1, [2, 0], 9), (1, [2, 0], 8))
        self.assertEqual(states(house, 3), ["ready", "ready", "ready"])

    def test_a_sleep_of_one_that_its_own_tick_ends_where_no_other_is_ready(self):
        house = started([nap_of(1)], quantum=9, beat=1)
        self.check_run(house, (0, [], 8), (0, [], 9), (0, [], 8), (0, [], 7), (0, [], 9))
        self.assertEqual((house.idle, house.swaps), (0, 1))

    def test_waiting_for_room_that_the_steps_own_tick_makes(self):
        house = started([TALK, SPIN], quantum=9, beat=33)
        run(house, 32)
        self.assertEqual((house.runs, house.row, house.left), (0, [1], 9))
        self.check_run(house, (1, [0], 9))
        self.assertEqual(states(house, 2), ["ready", "ready"])
        self.assertEqual((value(house, 0, "at"), len(value(house, 0, "outbox"))), (0, 15))

    def test_a_stop_at_a_tick_leaves_the_turn_of_the_next_whole(self):
        house = started([HALT, SPIN], quantum=1, beat=1)
        self.check_run(house, (1, [], 1), (1, [], 1))

    def test_those_that_a_tick_makes_ready_come_by_their_numbers(self):
        programs = [nap_of(2), nap_of(3), nap_of(2), SPIN, nap_of(1)]
        house = house_of(programs, quantum=9, beat=20)
        for user in (4, 2, 1, 0, 3):
            start(house, user, 0)
        run(house, 8)
        self.assertEqual(states(house, 5), ["sleeps", "sleeps", "sleeps", "ready", "sleeps"])
        self.assertEqual((house.runs, house.row, house.left), (3, [], 9))
        run(house, 12)
        self.assertEqual((house.runs, house.row, house.left), (3, [4], 8))
        load(house, 4, [told(GO, 0, 2)] * 64)
        run(house, 20)
        self.assertEqual((house.runs, house.row, house.left), (3, [4, 0, 2], 7))
        run(house, 20)
        self.assertEqual((house.runs, house.row, house.left), (3, [4, 0, 2, 1], 6))

    def test_a_tick_wakes_one_as_the_turn_of_who_runs_ends(self):
        house = started([nap_of(1), SPIN, SPIN], quantum=1, beat=3)
        self.check_run(house, (0, [1, 2], 1), (1, [2], 1), (2, [0, 1], 1))
        self.assertEqual(states(house, 3), ["ready", "ready", "ready"])

    def test_a_higher_number_that_a_tick_wakes_comes_ahead_of_whose_turn_ends(self):
        house = house_of([SPIN, SPIN, nap_of(1)], quantum=1, beat=3)
        for user in (2, 0, 1):
            start(house, user, 0)
        self.check_run(house, (2, [0, 1], 1), (0, [1], 1), (1, [2, 0], 1))

    def test_no_user_is_twice_in_the_row(self):
        house = started([SPIN, LISTEN, SPIN], quantum=3)
        for count in range(30):
            run(house, 1)
            key(house, 1, count)
            start(house, 1, 0)
            start(house, 2, 0)
            self.assertEqual(sorted(house.row + [house.runs]), [0, 1, 2])


class RoomsTest(HouseChecks, unittest.TestCase):
    def test_as_many_rooms_as_users(self):
        house = started([SPIN] * 3, rooms=3, quantum=1, beat=1)
        self.assertEqual((rooms_of(house, 3), house.turn, house.swaps), ([0, None, None], 1, 1))
        run(house, 1)
        self.assertEqual((rooms_of(house, 3), house.turn, house.swaps), ([0, 1, None], 2, 2))
        run(house, 1)
        self.assertEqual((rooms_of(house, 3), house.turn, house.swaps), ([0, 1, 2], 0, 3))
        run(house, 50)
        self.assertEqual((rooms_of(house, 3), house.turn, house.swaps), ([0, 1, 2], 0, 3))

    def test_rooms_are_taken_as_users_come_to_run(self):
        house = house_of([SPIN] * 3, rooms=8, quantum=1, beat=1)
        for user in (2, 0, 1):
            start(house, user, 0)
        run(house, 2)
        self.assertEqual((rooms_of(house, 3), house.turn, house.swaps), ([1, 2, 0], 3, 3))

    def test_one_room(self):
        house = started([SPIN] * 3, rooms=1, quantum=1, beat=1)
        for steps in range(12):
            expected = [0 if user == steps % 3 else None for user in range(3)]
            self.assertEqual((rooms_of(house, 3), house.turn, house.swaps), (expected, 0, steps + 1))
            run(house, 1)

    def test_two_rooms_of_three_users(self):
        house = started([SPIN] * 3, rooms=2, quantum=1, beat=1)
        trace = []
        for steps in range(6):
            trace.append((house.runs, rooms_of(house, 3), house.turn, house.swaps))
            run(house, 1)
        self.assertEqual(
            trace,
            [
                (0, [0, None, None], 1, 1),
                (1, [0, 1, None], 0, 2),
                (2, [None, 1, 0], 1, 3),
                (0, [1, None, 0], 0, 4),
                (1, [1, 0, None], 1, 5),
                (2, [None, 0, 1], 0, 6),
            ],
        )

    def test_one_that_is_in_a_room_stays_there(self):
        house = started([SPIN, LISTEN, SPIN], rooms=2, quantum=1, beat=1)
        self.assertEqual((house.runs, rooms_of(house, 3)), (0, [0, None, None]))
        run(house, 1)
        self.assertEqual((house.runs, rooms_of(house, 3), house.swaps), (1, [0, 1, None], 2))
        run(house, 1)
        self.assertEqual((house.runs, rooms_of(house, 3), house.swaps), (2, [None, 1, 0], 3))
        key(house, 1, 5)
        self.assertEqual((house.runs, house.row), (2, [0, 1]))
        run(house, 1)
        self.assertEqual((house.runs, rooms_of(house, 3), house.swaps, house.turn), (0, [1, None, 0], 4, 0))
        run(house, 1)
        self.assertEqual((house.runs, rooms_of(house, 3), house.swaps, house.turn), (1, [1, 0, None], 5, 1))

    def test_one_that_waits_or_is_stopped_keeps_its_room_till_another_needs_it(self):
        house = started([HALT, LISTEN, SPIN], rooms=2, quantum=1, beat=1)
        run(house, 1)
        self.assertEqual(rooms_of(house, 3), [0, 1, None])
        run(house, 1)
        self.assertEqual((house.runs, rooms_of(house, 3), house.turn, house.swaps), (2, [None, 1, 0], 1, 3))
        run(house, 5)
        self.assertEqual((house.runs, rooms_of(house, 3), house.turn, house.swaps), (2, [None, 1, 0], 1, 3))
        key(house, 1, 5)
        run(house, 1)
        self.assertEqual((house.runs, rooms_of(house, 3), house.turn, house.swaps), (1, [None, 1, 0], 1, 3))
        start(house, 0, 0)
        run(house, 2)
        self.assertEqual((house.runs, rooms_of(house, 3), house.turn, house.swaps), (0, [1, None, 0], 0, 4))

    def test_cells_registers_and_letters_are_kept_outside_of_a_room(self):
        count = {0: NOTHING + 4, 1: told(GO, 0, 0)}
        house = started([count] * 3, rooms=1, quantum=1, beat=1)
        for user in range(3):
            key(house, user, 10 + user)
        run(house, 60)
        for user in range(3):
            expected = picture_with(cells=count, total=10, inbox=(10 + user,), state="ready", done=20)
            self.assertEqual(seen(house, user), expected)


class LoadTest(HouseChecks, unittest.TestCase):
    """Users that run, stand in the row, wait, are stopped; in a room and in none."""

    def mixed(self, rooms):
        """0 hears, 1 and 5 are stopped, 2 and 4 stand in the row, 3 runs, 6 sleeps; 4 and 5 never ran."""
        house = house_of([LISTEN, HALT, SPIN, SPIN, SPIN, SPIN, nap_of(50)], rooms)
        for user in (6, 0, 1, 2, 3):
            start(house, user, 0)
        run(house, 7)
        start(house, 4, 0)
        return house

    def each_user(self):
        return [(rooms, user) for rooms in (1, 3, 8) for user in range(7)]

    def all_seen(self, house):
        return [seen(house, user) for user in range(7)]

    def all_diaries(self, house):
        return [diary(house, user) for user in range(7)]

    def all_but_users(self, house):
        return (turns(house), rooms_of(house, 7), house.steps, house.idle, house.ticks, self.all_diaries(house))

    def test_the_mixed_house(self):
        for rooms, where in (
            (1, [None, None, None, 0, None, None, None]),
            (3, [None, None, 0, 1, None, None, 2]),
            (8, [1, 2, 3, 4, None, None, 0]),
        ):
            house = self.mixed(rooms)
            self.assertEqual(states(house, 7), ["hears", "stopped", "ready", "ready", "ready", "stopped", "sleeps"])
            self.assertEqual((house.runs, house.row), (3, [2, 4]))
            self.assertEqual(rooms_of(house, 7), where)

    def test_load_changes_the_cells_alone(self):
        for rooms, user in self.each_user():
            house = self.mixed(rooms)
            ahead = self.all_seen(house)
            others = self.all_but_users(house)
            cells = list(range(900, 964))
            load(house, user, cells)
            self.assertEqual(cells, list(range(900, 964)))
            ahead[user] = (tuple(cells),) + ahead[user][1:]
            self.assertEqual(self.all_seen(house), ahead)
            self.assertEqual(self.all_but_users(house), others)

    def test_set_switches_changes_the_switches_alone(self):
        place = FIELDS.index("switches")
        for rooms, user in self.each_user():
            house = self.mixed(rooms)
            for word in (1, 1023, 0):
                ahead = self.all_seen(house)
                others = self.all_but_users(house)
                set_switches(house, user, word)
                ahead[user] = ahead[user][:place] + (word,) + ahead[user][place + 1 :]
                self.assertEqual(self.all_seen(house), ahead)
                self.assertEqual(self.all_but_users(house), others)

    def test_a_loaded_list_is_copied_and_stays(self):
        count = cells_with({0: told(RISE, 0, 40), 1: told(GO, 0, 0), 2: told(GO, 0, 0)})
        for rooms, user in self.each_user():
            house = self.mixed(rooms)
            cells = list(count)
            load(house, user, cells)
            start(house, user, 0)
            key(house, user, 1)
            run(house, 400)
            self.assertEqual(cells, count)
            self.assertGreater(value(house, user, "cells")[40], 9)
            ahead = seen(house, user)
            cells[40] = 0
            cells[5] = 1000
            self.assertEqual(seen(house, user), ahead)

    def test_one_list_for_several_users(self):
        cells = cells_with({0: told(RISE, 0, 40), 1: told(GO, 0, 0)})
        house = House(2, 1, 1, 1)
        load(house, 0, cells)
        load(house, 1, cells)
        start(house, 0, 0)
        run(house, 9)
        self.assertEqual((value(house, 0, "cells")[40], value(house, 1, "cells")[40]), (5, 0))

    def test_a_tuple_is_loaded_too(self):
        house = House(1, 1, 1, 1)
        load(house, 0, tuple(cells_with({0: told(RISE, 0, 40)})))
        start(house, 0, 0)
        run(house, 1)
        self.assertEqual(value(house, 0, "cells")[40], 1)

    def test_who_runs_goes_on_with_the_loaded_cells(self):
        house = started([SPIN])
        run(house, 3)
        load(house, 0, cells_with({0: NOTHING + 4, 1: told(GO, 0, 0)}))
        run(house, 4)
        self.assertEqual((value(house, 0, "total"), value(house, 0, "done")), (2, 7))

    def test_one_that_waits_goes_on_with_the_loaded_cells(self):
        house = started([LISTEN])
        run(house, 3)
        load(house, 0, [NOTHING + 4] * 64)
        self.assertEqual(states(house, 1), ["hears"])
        key(house, 0, 9)
        run(house, 2)
        self.assertEqual((value(house, 0, "total"), value(house, 0, "inbox"), value(house, 0, "at")), (2, (9,), 2))

    def test_switches_are_looked_at_as_they_are_then(self):
        house = started([{0: told(ASK, 0, LOOK), 1: told(ASK, 0, SAY), 2: told(GO, 0, 0)}], beat=3)
        for word in (5, 200, 255):
            set_switches(house, 0, word)
            run(house, 3)
        self.assertEqual(value(house, 0, "paper"), (5, 200, 255))


class SeenTest(unittest.TestCase):
    def test_seen_gives_the_picture_as_it_is_then(self):
        house = started([{0: NOTHING + 4, 1: told(GO, 0, 0)}])
        first = seen(house, 0)
        run(house, 3)
        self.assertEqual(first, picture_with(cells={0: NOTHING + 4, 1: told(GO, 0, 0)}, state="ready"))
        self.assertEqual(seen(house, 0)[1:4], (2, 0, 1))

    def test_no_ask_of_a_house_changes_it(self):
        house = started([SPIN, TALK, LISTEN], rooms=2, quantum=2, beat=2)
        run(house, 20)
        ahead = turns(house)
        for user in range(3):
            self.assertEqual(seen(house, user), seen(house, user))
            self.assertEqual(diary(house, user), diary(house, user))
            self.assertEqual(room_of(house, user), room_of(house, user))
        self.assertEqual(turns(house), ahead)


if __name__ == "__main__":
    unittest.main()
