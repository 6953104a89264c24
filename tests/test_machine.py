import unittest

from corehouse.machine import Machine, deed
from helpers import ADD, AND, ASK, BITS, CALL, GO, PUT, RISE, MachineChecks, machine_with, state, told

NOTHING = told(BITS, 0, 0)
ALWAYS_SKIP = told(BITS, 1, 4)


class MakingTest(MachineChecks, unittest.TestCase):
    def test_fields_are_what_was_handed_in(self):
        row = list(range(100, 164))
        machine = Machine(row, 1023, 1, 63)
        self.assertEqual(machine.cells, row)
        self.assertEqual((machine.total, machine.mark, machine.at), (1023, 1, 63))
        self.check_kinds(machine)

    def test_arguments_bear_their_names(self):
        machine = Machine(cells=[7] * 64, total=5, mark=1, at=9)
        self.assertEqual(state(machine), ((7,) * 64, 5, 1, 9))

    def test_a_list_is_copied(self):
        row = [0] * 64
        machine = Machine(row, 0, 0, 0)
        self.assertIsNot(machine.cells, row)
        row[5] = 9
        self.assertEqual(machine.cells, [0] * 64)
        machine.cells[6] = 8
        self.assertEqual(row[6], 0)

    def test_a_list_stays_as_it_was_through_deeds(self):
        row = [told(RISE, 0, 40), told(PUT, 0, 41), told(CALL, 0, 42)] + [0] * 61
        ahead = list(row)
        machine = Machine(row, 500, 0, 0)
        for count in range(3):
            deed(machine)
        self.assertEqual(row, ahead)
        self.assertEqual(machine.cells[40:43], [1, 500, 3])

    def test_a_tuple_is_copied_to_a_list(self):
        row = (told(RISE, 0, 40),) + (0,) * 63
        ahead = tuple(row)
        machine = Machine(row, 0, 0, 0)
        self.assertIs(type(machine.cells), list)
        deed(machine)
        self.assertEqual(machine.cells[40], 1)
        self.assertEqual(row, ahead)

    def test_machines_of_one_list_are_apart(self):
        row = [told(RISE, 0, 40)] + [0] * 63
        first = Machine(row, 0, 0, 0)
        second = Machine(row, 0, 0, 0)
        third = Machine(first.cells, 0, 0, 0)
        deed(first)
        self.assertEqual((second.cells[40], third.cells[40]), (0, 0))


class AtTest(MachineChecks, unittest.TestCase):
    def test_at_is_one_more_from_each_place(self):
        for at in range(64):
            behind = at + 1 if at < 63 else 0
            self.check(machine_with({at: NOTHING}, 5, 1, at), 5, 1, behind)

    def test_a_skip_makes_at_two_more_from_each_place(self):
        behind = {62: 0, 63: 1}
        for at in range(64):
            self.check(machine_with({at: ALWAYS_SKIP}, 5, 1, at), 5, 1, behind.get(at, at + 2))

    def test_a_skip_of_rise_behind_63(self):
        for at, behind in ((61, 63), (62, 0), (63, 1)):
            machine = machine_with({at: told(RISE, 0, 20), 20: 1023}, 5, 1, at)
            self.check(machine, 5, 1, behind, {20: 0})

    def test_the_deed_is_the_word_at_at(self):
        machine = machine_with({9: told(ADD, 0, 50), 10: told(ADD, 0, 51), 50: 3, 51: 40}, 0, 0, 9)
        self.check(machine, 3, 0, 10)
        self.check(machine, 43, 0, 11)


class AndTest(MachineChecks, unittest.TestCase):
    def test_and(self):
        for total, number, answer in (
            (0b1100110011, 0b1010101010, 0b1000100010),
            (1023, 1023, 1023),
            (1023, 0, 0),
            (0, 1023, 0),
            (512, 511, 0),
            (513, 1022, 512),
        ):
            for mark in (0, 1):
                machine = machine_with({0: told(AND, 0, 30), 30: number}, total, mark)
                self.check(machine, answer, mark, 1)

    def test_and_far(self):
        for mark in (0, 1):
            machine = machine_with({0: told(AND, 1, 30), 30: 33, 33: 0b0111110000}, 0b1010101010, mark)
            self.check(machine, 0b0010100000, mark, 1)

    def test_and_at_the_edges_of_places(self):
        self.check(machine_with({5: told(AND, 0, 63), 63: 12}, 10, 0, 5), 8, 0, 6)
        self.check(machine_with({5: told(AND, 0, 0), 0: 12}, 10, 0, 5), 8, 0, 6)


class AddTest(MachineChecks, unittest.TestCase):
    SUMS = (
        (0, 0, 0, False),
        (1, 2, 3, False),
        (1022, 1, 1023, False),
        (1, 1022, 1023, False),
        (0, 1023, 1023, False),
        (1023, 1, 0, True),
        (1, 1023, 0, True),
        (512, 512, 0, True),
        (1023, 2, 1, True),
        (1023, 1023, 1022, True),
    )

    def test_add_near_and_far(self):
        for total, number, answer, turned in self.SUMS:
            for mark in (0, 1):
                after = 1 - mark if turned else mark
                near = machine_with({0: told(ADD, 0, 30), 30: number}, total, mark)
                self.check(near, answer, after, 1)
                far = machine_with({0: told(ADD, 1, 31), 31: 30, 30: number}, total, mark)
                self.check(far, answer, after, 1)

    def test_the_mark_is_turned_by_each_sum_beyond(self):
        machine = machine_with({0: told(ADD, 0, 30), 1: told(ADD, 0, 30), 30: 1000}, 1000, 0)
        self.check(machine, 976, 1, 1)
        self.check(machine, 952, 0, 2)

    def test_add_of_its_own_cell(self):
        self.check(machine_with({3: told(ADD, 0, 3)}, 10, 0, 3), 10 + 131, 0, 4)


class RiseTest(MachineChecks, unittest.TestCase):
    def test_rise_near_and_far(self):
        for number, raised, at in ((0, 1, 1), (5, 6, 1), (511, 512, 1), (1022, 1023, 1), (1023, 0, 2)):
            for mark in (0, 1):
                near = machine_with({0: told(RISE, 0, 30), 30: number}, 77, mark)
                self.check(near, 77, mark, at, {30: raised})
                far = machine_with({0: told(RISE, 1, 31), 31: 30, 30: number}, 77, mark)
                self.check(far, 77, mark, at, {30: raised})

    def test_rise_of_its_own_cell(self):
        own = told(RISE, 0, 7)
        self.check(machine_with({7: own}, 1, 0, 7), 1, 0, 8, {7: own + 1})

    def test_far_rise_of_its_own_cell(self):
        own = told(RISE, 1, 30)
        self.check(machine_with({7: own, 30: 7}, 1, 0, 7), 1, 0, 8, {7: own + 1})

    def test_far_rise_of_the_cell_that_tells_the_place(self):
        self.check(machine_with({0: told(RISE, 1, 30), 30: 64 * 3 + 30}, 1, 0), 1, 0, 1, {30: 64 * 3 + 31})


class PutTest(MachineChecks, unittest.TestCase):
    def test_put_near_and_far(self):
        for total in (0, 1, 512, 1023):
            for mark in (0, 1):
                near = machine_with({0: told(PUT, 0, 30), 30: 99}, total, mark)
                self.check(near, 0, mark, 1, {30: total})
                far = machine_with({0: told(PUT, 1, 31), 31: 30, 30: 99}, total, mark)
                self.check(far, 0, mark, 1, {30: total})

    def test_put_at_places_0_and_63(self):
        self.check(machine_with({5: told(PUT, 0, 0)}, 900, 1, 5), 0, 1, 6, {0: 900})
        self.check(machine_with({5: told(PUT, 0, 63)}, 900, 1, 5), 0, 1, 6, {63: 900})

    def test_put_over_its_own_cell(self):
        self.check(machine_with({7: told(PUT, 0, 7)}, 45, 1, 7), 0, 1, 8, {7: 45})

    def test_put_over_the_cell_that_tells_the_place(self):
        self.check(machine_with({0: told(PUT, 1, 30), 30: 30}, 45, 1), 0, 1, 1, {30: 45})


class CallTest(MachineChecks, unittest.TestCase):
    def test_call_near_and_far(self):
        for place, at in ((0, 1), (1, 2), (30, 31), (62, 63), (63, 0)):
            near = machine_with({5: told(CALL, 0, place)}, 77, 1, 5)
            self.check(near, 77, 1, at, {place: 6})
            far = machine_with({5: told(CALL, 1, 20), 20: 64 * 9 + place}, 77, 1, 5)
            self.check(far, 77, 1, at, {place: 6})

    def test_call_from_63_keeps_0(self):
        self.check(machine_with({63: told(CALL, 0, 30), 30: 500}, 77, 0, 63), 77, 0, 31, {30: 0})

    def test_call_of_its_own_cell(self):
        self.check(machine_with({5: told(CALL, 0, 5)}, 77, 0, 5), 77, 0, 6, {5: 6})

    def test_call_of_63_from_63(self):
        self.check(machine_with({63: told(CALL, 0, 63)}, 77, 0, 63), 77, 0, 0, {63: 0})

    def test_far_call_over_the_cell_that_tells_the_place(self):
        self.check(machine_with({5: told(CALL, 1, 20), 20: 20}, 77, 0, 5), 77, 0, 21, {20: 6})

    def test_a_call_is_come_back_from(self):
        for place in (30, 0, 62):
            machine = machine_with({5: told(CALL, 0, place), place + 1: told(GO, 1, place)}, 77, 1, 5)
            self.check(machine, 77, 1, place + 1, {place: 6})
            self.check(machine, 77, 1, 6)

    def test_a_call_of_63_is_come_back_from(self):
        machine = machine_with({5: told(CALL, 0, 63), 0: told(GO, 1, 63)}, 77, 1, 5)
        self.check(machine, 77, 1, 0, {63: 6})
        self.check(machine, 77, 1, 6)

    def test_a_call_from_63_is_come_back_from(self):
        machine = machine_with({63: told(CALL, 0, 30), 31: told(GO, 1, 30)}, 77, 1, 63)
        self.check(machine, 77, 1, 31, {30: 0})
        self.check(machine, 77, 1, 0)


class GoTest(MachineChecks, unittest.TestCase):
    def test_go_to_each_place_near_and_far(self):
        for place in range(64):
            near = machine_with({5: told(GO, 0, place)}, 77, 1, 5)
            self.check(near, 77, 1, place)
            far = machine_with({5: told(GO, 1, 20), 20: 64 * 15 + place}, 77, 1, 5)
            self.check(far, 77, 1, place)

    def test_go_from_63(self):
        self.check(machine_with({63: told(GO, 0, 63)}, 77, 0, 63), 77, 0, 63)
        self.check(machine_with({63: told(GO, 0, 0)}, 77, 0, 63), 77, 0, 0)


class FarTest(MachineChecks, unittest.TestCase):
    def test_each_place_rises_or_not(self):
        for through in range(1, 64):
            rises = through in (8, 9, 10, 11)
            number = 64 * 2 + 40
            row = {0: told(ADD, 1, through), 40: 300, 41: 301, through: number}
            machine = machine_with(row, 0, 0)
            if through == 40:
                self.check(machine, number, 0, 1)
            elif rises:
                self.check(machine, 301, 0, 1, {through: number + 1})
            else:
                self.check(machine, 300, 0, 1)

    def test_through_place_0(self):
        self.check(machine_with({5: told(ADD, 1, 0), 0: 40, 40: 300}, 0, 0, 5), 300, 0, 6)

    def test_1023_in_the_cell_there(self):
        for through in (7, 12):
            machine = machine_with({1: told(ADD, 1, through), through: 1023, 63: 300, 0: 200}, 0, 0, 1)
            self.check(machine, 300, 0, 2)
        for through in (8, 9, 10, 11):
            machine = machine_with({1: told(ADD, 1, through), through: 1023, 63: 300, 0: 200}, 0, 0, 1)
            self.check(machine, 200, 0, 2, {through: 0})

    def test_a_rise_to_0_of_the_cell_there_does_not_skip(self):
        machine = machine_with({1: told(RISE, 1, 8), 8: 1023, 0: 5}, 0, 0, 1)
        self.check(machine, 0, 0, 2, {8: 0, 0: 6})

    def test_the_place_is_left_by_64(self):
        for number in (40, 64 + 40, 64 * 7 + 40, 64 * 15 + 40):
            self.check(machine_with({0: told(ADD, 1, 30), 30: number, 40: 300}), 300, 0, 1)

    def test_the_cell_there_rises_over_a_multiple_of_64(self):
        machine = machine_with({1: told(ADD, 1, 8), 8: 64 * 3 + 63, 0: 200, 63: 300}, 0, 0, 1)
        self.check(machine, 200, 0, 2, {8: 64 * 4})

    def test_each_kind_through_7_8_11_and_12(self):
        for through, place in ((7, 40), (8, 41), (11, 41), (12, 40)):
            changed = {} if place == 40 else {through: 41}
            start = {0: 0, through: 40, 40: 12, 41: 12}
            for kind, total, at, more in (
                (AND, 8, 1, {}),
                (ADD, 22, 1, {}),
                (RISE, 10, 1, {place: 13}),
                (PUT, 0, 1, {place: 10}),
                (CALL, 10, place + 1, {place: 1}),
                (GO, 10, place, {}),
            ):
                start[0] = told(kind, 1, through)
                self.check(machine_with(start, 10, 1), total, 1, at, {**changed, **more})

    def test_near_does_not_rise(self):
        for place in (8, 9, 10, 11):
            self.check(machine_with({0: told(ADD, 0, place), place: 40}), 40, 0, 1)

    def test_an_ask_and_a_test_of_these_places_do_not_rise(self):
        for place in (8, 9, 10, 11):
            machine = machine_with({0: told(ASK, 1, place), 1: told(BITS, 1, place), place: 40})
            deed(machine)
            deed(machine)
            self.assertEqual(machine.cells[place], 40)

    def test_the_deeds_own_cell_is_the_one_that_rises(self):
        for kind, total, at, cell in (
            (GO, 10, 9, None),
            (CALL, 10, 10, 9),
            (PUT, 0, 9, 10),
        ):
            own = told(kind, 1, 8)
            changed = {8: own + 1}
            if cell is not None:
                changed[9] = cell
            self.check(machine_with({8: own, 9: 700}, 10, 0, 8), total, 0, at, changed)

    def test_the_deeds_own_cell_rises_and_is_read(self):
        own = told(ADD, 1, 11)
        self.check(machine_with({11: own, 12: 700}, 10, 0, 11), 710, 0, 12, {11: own + 1})

    def test_the_cell_that_rises_is_the_one_that_is_reached(self):
        for kind, total, at, cell in (
            (AND, 8, 1, 9),
            (ADD, 19, 1, 9),
            (RISE, 10, 1, 10),
            (PUT, 0, 1, 10),
            (CALL, 10, 10, 1),
            (GO, 10, 9, 9),
        ):
            self.check(machine_with({0: told(kind, 1, 9), 9: 8}, 10, 0), total, 0, at, {9: cell})

    def test_the_deeds_own_cell_is_reached_through_one_that_rises(self):
        own = told(PUT, 1, 10)
        self.check(machine_with({20: own, 10: 19}, 45, 1, 20), 0, 1, 21, {10: 20, 20: 45})
        own = told(RISE, 1, 10)
        self.check(machine_with({20: own, 10: 19}, 45, 1, 20), 45, 1, 21, {10: 20, 20: own + 1})
        own = told(CALL, 1, 10)
        self.check(machine_with({20: own, 10: 19}, 45, 1, 20), 45, 1, 21, {10: 20, 20: 21})

    def test_a_row_is_walked_through_a_cell_that_rises(self):
        machine = machine_with({0: told(ADD, 1, 10), 1: told(GO, 0, 0), 10: 39, 40: 1, 41: 20, 42: 300})
        self.check(machine, 1, 0, 1, {10: 40})
        self.check(machine, 1, 0, 0)
        self.check(machine, 21, 0, 1, {10: 41})
        self.check(machine, 21, 0, 0)
        self.check(machine, 321, 0, 1, {10: 42})


class AskTest(MachineChecks, unittest.TestCase):
    def test_an_ask_gives_its_place_and_moves_at_alone(self):
        for far in (0, 1):
            for place in range(64):
                for at, behind in ((0, 1), (9, 10), (63, 0)):
                    row = {number: 3 * number for number in range(64)}
                    row[at] = told(ASK, far, place)
                    machine = machine_with(row, 513, 1, at)
                    cells = tuple(machine.cells)
                    answer = deed(machine)
                    self.assertEqual(answer, place)
                    self.assertIs(type(answer), int)
                    self.assertEqual(state(machine), (cells, 513, 1, behind))

    def test_every_other_deed_gives_none(self):
        for number in list(range(768)) + list(range(896, 1024)):
            for total, mark in ((0, 0), (1023, 1)):
                self.assertIsNone(deed(machine_with({0: number}, total, mark)))


if __name__ == "__main__":
    unittest.main()
