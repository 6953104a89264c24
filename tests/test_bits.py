import unittest

from helpers import BITS, MachineChecks, machine_with, told

TOTALS = (0, 1, 511, 512, 1022, 1023)
MARKS = (0, 1)


def changed(place, total, mark):
    """A change over one number of eleven bits, the mark ahead of the total."""
    both = mark * 1024 + total
    if place & 32:
        both &= 1024
    if place & 16:
        both ^= 1023
    if place & 8:
        both ^= 1024
    if place & 4:
        both = (both + 1) & 2047
    if place & 3 == 2:
        both = (both << 1 | both >> 10) & 2047
    if place & 3 == 1:
        both = both >> 1 | (both & 1) << 10
    return both & 1023, both >> 10


def skips(place, total, mark):
    asked = [place & 32 and total > 511, place & 16 and total < 1, place & 8 and mark]
    return any(asked) != bool(place & 4)


class ChangeTest(MachineChecks, unittest.TestCase):
    def change(self, place, ahead, behind):
        machine = machine_with({9: told(BITS, 0, place)}, ahead[0], ahead[1], 9)
        self.check(machine, behind[0], behind[1], 10)

    def test_all_changes(self):
        for place in range(64):
            for total in TOTALS:
                for mark in MARKS:
                    with self.subTest(place=place, total=total, mark=mark):
                        self.change(place, (total, mark), changed(place, total, mark))

    def test_each_change_by_itself(self):
        self.change(0, (700, 1), (700, 1))
        self.change(32, (700, 1), (0, 1))
        self.change(16, (700, 1), (323, 1))
        self.change(8, (700, 1), (700, 0))
        self.change(8, (700, 0), (700, 1))
        self.change(4, (700, 1), (701, 1))
        self.change(4, (1023, 1), (0, 0))
        self.change(4, (1023, 0), (0, 1))

    def test_left(self):
        self.change(2, (0, 0), (0, 0))
        self.change(2, (0, 1), (1, 0))
        self.change(2, (511, 0), (1022, 0))
        self.change(2, (511, 1), (1023, 0))
        self.change(2, (512, 0), (0, 1))
        self.change(2, (512, 1), (1, 1))
        self.change(2, (1023, 0), (1022, 1))
        self.change(2, (1023, 1), (1023, 1))

    def test_right(self):
        self.change(1, (0, 0), (0, 0))
        self.change(1, (0, 1), (512, 0))
        self.change(1, (1, 0), (0, 1))
        self.change(1, (1, 1), (512, 1))
        self.change(1, (1022, 0), (511, 0))
        self.change(1, (1022, 1), (1023, 0))
        self.change(1, (1023, 0), (511, 1))
        self.change(1, (1023, 1), (1023, 1))

    def test_left_and_right_at_once_are_neither(self):
        for total in TOTALS:
            for mark in MARKS:
                self.change(3, (total, mark), (total, mark))

    def test_zero_ahead_of_turn(self):
        self.change(48, (700, 1), (1023, 1))

    def test_zero_ahead_of_more(self):
        self.change(36, (700, 1), (1, 1))
        self.change(36, (1023, 1), (1, 1))

    def test_turn_ahead_of_more(self):
        self.change(20, (1, 0), (1023, 0))
        self.change(20, (0, 0), (0, 1))
        self.change(20, (1023, 0), (1, 0))

    def test_turn_ahead_of_left_and_right(self):
        self.change(18, (0, 0), (1022, 1))
        self.change(17, (0, 0), (511, 1))

    def test_flip_ahead_of_left_and_right(self):
        self.change(10, (0, 0), (1, 0))
        self.change(9, (0, 0), (512, 0))
        self.change(10, (512, 1), (0, 1))
        self.change(9, (1, 1), (0, 1))

    def test_more_ahead_of_left_and_right(self):
        self.change(6, (511, 0), (0, 1))
        self.change(6, (1023, 0), (1, 0))
        self.change(5, (511, 0), (256, 0))
        self.change(5, (1023, 0), (512, 0))

    def test_all_but_right(self):
        self.change(62, (5, 0), (0, 0))
        self.change(62, (5, 1), (1, 0))

    def test_at_behind_63(self):
        self.check(machine_with({63: told(BITS, 0, 32)}, 5, 1, 63), 0, 1, 0)


class TestTest(MachineChecks, unittest.TestCase):
    def ask(self, place, ahead, at, behind):
        machine = machine_with({9: told(BITS, 1, place)}, ahead[0], ahead[1], 9)
        self.check(machine, behind[0], behind[1], at)

    def test_all_tests(self):
        for place in range(64):
            for total in TOTALS:
                for mark in MARKS:
                    with self.subTest(place=place, total=total, mark=mark):
                        at = 11 if skips(place, total, mark) else 10
                        behind = (0 if place & 2 else total, 0 if place & 1 else mark)
                        self.ask(place, (total, mark), at, behind)

    def test_minus(self):
        for total, at in ((0, 10), (1, 10), (511, 10), (512, 11), (1023, 11)):
            self.ask(32, (total, 1), at, (total, 1))
            self.ask(36, (total, 1), 21 - at, (total, 1))

    def test_none(self):
        for total, at in ((0, 11), (1, 10), (512, 10), (1023, 10)):
            self.ask(16, (total, 1), at, (total, 1))
            self.ask(20, (total, 1), 21 - at, (total, 1))

    def test_mark(self):
        for mark, at in ((0, 10), (1, 11)):
            self.ask(8, (700, mark), at, (700, mark))
            self.ask(12, (700, mark), 21 - at, (700, mark))

    def test_one_of_several_is_enough(self):
        self.ask(56, (0, 0), 11, (0, 0))
        self.ask(56, (512, 0), 11, (512, 0))
        self.ask(56, (1, 1), 11, (1, 1))
        self.ask(56, (1, 0), 10, (1, 0))
        self.ask(60, (1, 0), 11, (1, 0))
        self.ask(60, (1, 1), 10, (1, 1))
        self.ask(60, (512, 1), 10, (512, 1))

    def test_nothing_asked(self):
        for total in TOTALS:
            for mark in MARKS:
                self.ask(0, (total, mark), 10, (total, mark))
                self.ask(4, (total, mark), 11, (total, mark))

    def test_zero_and_flat(self):
        self.ask(2, (700, 1), 10, (0, 1))
        self.ask(1, (700, 1), 10, (700, 0))
        self.ask(3, (700, 1), 10, (0, 0))
        self.ask(7, (700, 1), 11, (0, 0))

    def test_the_skip_is_told_ahead_of_zero_and_flat(self):
        self.ask(34, (512, 0), 11, (0, 0))
        self.ask(38, (512, 0), 10, (0, 0))
        self.ask(18, (5, 0), 10, (0, 0))
        self.ask(22, (5, 0), 11, (0, 0))
        self.ask(9, (5, 1), 11, (5, 0))
        self.ask(13, (5, 1), 10, (5, 0))

    def test_a_skip_behind_63(self):
        for at, stays, skipped in ((61, 62, 63), (62, 63, 0), (63, 0, 1)):
            self.check(machine_with({at: told(BITS, 1, 16)}, 5, 1, at), 5, 1, stays)
            self.check(machine_with({at: told(BITS, 1, 16)}, 0, 1, at), 0, 1, skipped)


if __name__ == "__main__":
    unittest.main()
