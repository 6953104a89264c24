"""Helpers for the tests of the machine, of a user, of a house and of texts."""

from corehouse.errors import BadText, CoreError
from corehouse.house import diary, load, room_of, seen
from corehouse.machine import Machine, deed
from corehouse.people import happen, person_of, picture
from corehouse.texts import assembled

AND, ADD, RISE, PUT, CALL, GO, ASK, BITS = range(8)
HEARD, HEAR, ROOM, SAY, SLEEP, FETCH, STORE, STOP, LOOK = range(9)

STATES = ("stopped", "ready", "hears", "says", "sleeps")

FIELDS = (
    "cells total mark at inbox outbox paper blocks switches state nap lost done"
).split()

AT_FIRST = {
    "cells": (0,) * 64,
    "total": 0,
    "mark": 0,
    "at": 0,
    "inbox": (),
    "outbox": (),
    "paper": (),
    "blocks": ((0,) * 16,) * 4,
    "switches": 0,
    "state": "stopped",
    "nap": 0,
    "lost": 0,
    "done": 0,
}

NOTHING = 896  # a change of no bits


def told(kind, far, place):
    return kind * 128 + far * 64 + place


def cells_with(cells):
    """64 words, 0 but those of the dict."""
    row = [0] * 64
    for place, number in cells.items():
        row[place] = number
    return row


def machine_with(cells, total=0, mark=0, at=0):
    """A machine whose cells are 0 but those of the dict."""
    return Machine(cells_with(cells), total, mark, at)


def state(machine):
    return (tuple(machine.cells), machine.total, machine.mark, machine.at)


def changed_picture(ahead, changes):
    """A picture with other values for the fields that are named."""
    values = dict(zip(FIELDS, ahead))
    for name, value in changes.items():
        assert name in values, name
        values[name] = tuple(value) if isinstance(value, list) else value
    return tuple(values[name] for name in FIELDS)


def picture_with(**changes):
    """The picture of a user as at first, with other values for the fields that are named; cells may be a dict."""
    if isinstance(changes.get("cells"), dict):
        changes["cells"] = cells_with(changes["cells"])
    return changed_picture(tuple(AT_FIRST[name] for name in FIELDS), changes)


def changed_cells(ahead, cells):
    row = list(ahead[0])
    for place, number in cells.items():
        row[place] = number
    return tuple(row)


def full_user(**changes):
    """A picture without a value that is as at first, but for those that are named."""
    values = {
        "cells": tuple(NOTHING + number for number in range(64)),
        "total": 77,
        "mark": 1,
        "at": 9,
        "inbox": (1, 255),
        "outbox": (0, 2, 254),
        "paper": (65, 66),
        "blocks": tuple(tuple(range(block * 100, block * 100 + 16)) for block in range(1, 5)),
        "switches": 600,
        "state": "ready",
        "nap": 5,
        "lost": 3,
        "done": 40,
    }
    values.update(changes)
    return picture_with(**values)


class MachineChecks:
    """Checks of a whole machine, so that nothing else may have changed."""

    def check(self, machine, total, mark, at, changed=None):
        """One deed gives None; of the cells just the changed ones are other than ahead."""
        cells = list(machine.cells)
        for place, number in (changed or {}).items():
            cells[place] = number
        self.assertIsNone(deed(machine))
        self.assertEqual(state(machine), (tuple(cells), total, mark, at))
        self.check_kinds(machine)

    def check_kinds(self, machine):
        self.assertIs(type(machine.cells), list)
        numbers = machine.cells + [machine.total, machine.mark, machine.at]
        self.assertEqual({type(number) for number in numbers}, {int})


class UserChecks:
    """Checks of a whole user, so that nothing else may have changed."""

    def check_event(self, ahead, event, **changes):
        """The event gives None and changes just the fields that are named of a user with this picture."""
        person = person_of(ahead)
        self.assertIsNone(happen(person, event))
        self.assertEqual(picture(person), changed_picture(ahead, changes))
        self.check_user_kinds(person)
        return person

    def check_user_kinds(self, person):
        self.assertIsInstance(person.machine, Machine)
        for row in [person.inbox, person.outbox, person.paper, person.blocks, person.machine.cells] + person.blocks:
            self.assertIs(type(row), list)
        self.check_picture_kinds(picture(person))

    def check_picture_kinds(self, told_picture):
        self.assertIs(type(told_picture), tuple)
        self.assertEqual(len(told_picture), len(FIELDS))
        kinds = {"state": str}
        for name, value in zip(FIELDS, told_picture):
            if name == "blocks":
                self.check_rows(value, 4)
            elif isinstance(AT_FIRST[name], tuple):
                self.check_rows((value,), 1)
            else:
                self.assertIs(type(value), kinds.get(name, int), name)

    def check_rows(self, rows, count):
        self.assertIs(type(rows), tuple)
        self.assertEqual(len(rows), count)
        for row in rows:
            self.assertIs(type(row), tuple)
            self.assertLessEqual({type(number) for number in row}, {int})


SPIN = {0: told(GO, 0, 0)}
HALT = {0: told(ASK, 0, STOP)}
LISTEN = {0: told(ASK, 0, HEAR), 1: told(GO, 0, 0)}
TALK = {0: told(ASK, 0, SAY), 1: told(GO, 0, 0)}


def nap_of(ticks):
    """A program that sleeps for that many ticks, again and again: of three steps a round."""
    return {0: told(ADD, 0, 63), 1: told(ASK, 0, SLEEP), 2: told(GO, 0, 0), 63: ticks}


def load_all(house, programs):
    for user, cells in enumerate(programs):
        load(house, user, cells_with(cells))


def turns(house):
    """Who runs, the row, what is left, the turn of rooms and the swaps."""
    return (house.runs, tuple(house.row), house.left, house.turn, house.swaps)


def rooms_of(house, users):
    return [room_of(house, user) for user in range(users)]


def states(house, users):
    return [seen(house, user)[FIELDS.index("state")] for user in range(users)]


def whole(house, users):
    """All that is seen of a house."""
    numbers = (turns(house), house.steps, house.idle, house.ticks)
    return (numbers, [(seen(house, user), diary(house, user), room_of(house, user)) for user in range(users)])


def chance_cells(chance):
    """Cells with many asks, letters and loops."""
    cells = []
    for number in range(64):
        what = chance.randrange(10)
        if what < 4:
            cells.append(told(ASK, chance.randrange(2), chance.choice((0, 1, 1, 2, 3, 3, 3, 4, 5, 6, 7, 8, 9, 63))))
        elif what < 5:
            cells.append(told(BITS, chance.randrange(2), chance.randrange(64)))
        elif what < 6:
            cells.append(told(GO, 0, chance.randrange(64)))
        elif what < 7:
            cells.append(told(BITS, 0, 36))
        else:
            cells.append(chance.randrange(1024))
    return cells


TALKER = {
    0: told(ASK, 0, SAY),
    1: NOTHING + 4,
    2: told(GO, 0, 0),
}
ECHO = {
    0: told(ASK, 0, HEAR),
    1: told(ASK, 0, SAY),
    2: told(GO, 0, 0),
}
KEEPER = {
    0: told(ASK, 0, HEAR),
    1: told(PUT, 0, 40),
    2: told(ASK, 0, STORE),
    3: 40,
    4: told(ASK, 0, FETCH),
    5: 55,
    6: told(ADD, 0, 55),
    7: told(ASK, 0, SLEEP),
    8: told(ADD, 0, 62),
    9: told(ASK, 0, SAY),
    10: told(ASK, 0, STOP),
    62: 300,
}
PROGRAMS = (SPIN, HALT, LISTEN, TALK, TALKER, ECHO, KEEPER, nap_of(1), nap_of(2), nap_of(30))


class TextChecks:
    def check_text(self, text, cells):
        """The text gives cells that are 0 but those of the dict."""
        made = assembled(text)
        self.assertEqual(made, cells_with(cells), text)
        self.check_made(made)

    def check_made(self, made):
        self.assertIs(type(made), list)
        self.assertEqual(len(made), 64)
        self.assertEqual({type(word) for word in made}, {int})

    def check_refused(self, text, refusal, line):
        with self.assertRaises(ValueError, msg=text) as caught:
            assembled(text)
        error = caught.exception
        self.assertEqual((type(error).__name__, error.line), (refusal.__name__, line), text)
        self.assertIs(type(error), refusal)
        self.assertIs(type(error.line), int)
        self.assertIsInstance(error, BadText)
        self.assertIsInstance(error, CoreError)
