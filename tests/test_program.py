"""The whole program at once: texts made into cells, run by users in a house, shown, saved and taken."""

import unittest

from corehouse.house import House, diary, key, load, run, seen, set_switches, start
from corehouse.listing import shown
from corehouse.people import alone, picture
from corehouse.saving import saved, taken
from corehouse.texts import assembled
from helpers import FIELDS, states, whole

ECHO = """
; says each letter that it hears, till it hears a 0
loop:   ask hear
        test none       ; skips, where the letter is 0
        go print
        ask stop
print:  ask say
        go loop
"""

DOWN = """
; says 9 to 0, with a nap between, and the switches at the end
        change zero
        add =0-0+9
loop:   put count
        add count
        add =48
        ask say
        change zero more
        ask sleep
        add count
        test none not   ; skips, where some are left
        go end
        add =1023
        go loop
end:    ask look
        ask say
        ask stop
count:  word 0
"""

ROWS = """
; copies a row of cells through the cells that rise, then stores them in block 1 and says the 3rd of them
        go begin
        place 8
from:   word row-1
to:     word copy-1
begin:  add far from
        put far to
        rise togo
        go begin
        change zero more
        ask store
        word copy
        add =1
        ask fetch
        word copy+16
        add copy+16+2
        ask say
        ask stop
togo:   word 1024-4
row:    word 71
        word 72
        word 73
        word 74
copy:
        place copy+8
"""

SUB = """
; calls a part that doubles, three times
        add =5
        call twice
        call twice
        call twice
        ask say
        ask stop
twice:  word 0
        test flat
        change left
        go far twice
"""

TEXTS = (ECHO, DOWN, ROWS, SUB)
PAPERS = ((72, 105), tuple(range(57, 47, -1)) + (33,), (73,), (40,))


def paper(house, user):
    return seen(house, user)[FIELDS.index("paper")]


def begun(users, rooms, quantum, beat):
    house = House(users, rooms, quantum, beat)
    for user in range(users):
        load(house, user, assembled(TEXTS[user % 4]))
        set_switches(house, user, 33)
        start(house, user, 0)
    return house


def type_letters(house, users):
    for user in range(0, users, 4):
        for letter in (72, 105, 0):
            key(house, user, letter)


class ProgramTest(unittest.TestCase):
    def check_end(self, house, users):
        self.assertEqual(states(house, users), ["stopped"] * users)
        for user in range(users):
            self.assertEqual(paper(house, user), PAPERS[user % 4])
            other = alone(assembled(TEXTS[user % 4]), 33, diary(house, user))
            self.assertEqual(picture(other), seen(house, user))

    def test_each_user_by_itself(self):
        for user in range(4):
            house = House(1, 1, 1, 1)
            load(house, 0, assembled(TEXTS[user]))
            set_switches(house, 0, 33)
            start(house, 0, 0)
            type_letters(house, 1)
            run(house, 600)
            self.assertEqual(paper(house, 0), PAPERS[user])

    def test_houses_of_many_sizes(self):
        for users in (1, 3, 4, 8):
            for rooms in (1, 2, 3, 8):
                for quantum, beat in ((1, 1), (2, 3), (5, 1), (64, 10)):
                    house = begun(users, rooms, quantum, beat)
                    run(house, 7)
                    type_letters(house, users)
                    run(house, 2000)
                    self.check_end(house, users)

    def test_a_house_that_is_saved_and_taken_at_any_step(self):
        for steps in range(0, 400, 7):
            house = begun(8, 3, 2, 2)
            type_letters(house, 8)
            run(house, steps)
            other = taken(saved(house))
            run(other, 1500)
            self.check_end(other, 8)
            run(house, 1500)
            self.assertEqual(whole(house, 8), whole(other, 8))
            self.assertEqual(saved(house), saved(other))

    def test_cells_are_shown_and_made_again_at_any_step(self):
        house = begun(4, 2, 1, 3)
        type_letters(house, 4)
        for count in range(150):
            for user in range(4):
                cells = list(seen(house, user)[0])
                self.assertEqual(assembled(shown(cells)), cells)
                load(house, user, assembled(shown(cells)))
            run(house, 1)
        run(house, 1500)
        self.check_end(house, 4)

    def test_cells_that_were_made_are_not_changed_by_a_run(self):
        cells = [assembled(text) for text in TEXTS]
        house = House(4, 2, 1, 1)
        for user in range(4):
            load(house, user, cells[user])
            start(house, user, 0)
        run(house, 300)
        self.assertEqual(cells, [assembled(text) for text in TEXTS])


if __name__ == "__main__":
    unittest.main()
