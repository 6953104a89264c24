"""Helpers for the tests of the machine."""

from corehouse.machine import Machine, deed

AND, ADD, RISE, PUT, CALL, GO, ASK, BITS = range(8)


def told(kind, far, place):
    return kind * 128 + far * 64 + place


def machine_with(cells, total=0, mark=0, at=0):
    """A machine whose cells are 0 but those of the dict."""
    row = [0] * 64
    for place, number in cells.items():
        row[place] = number
    return Machine(row, total, mark, at)


def state(machine):
    return (tuple(machine.cells), machine.total, machine.mark, machine.at)


class MachineChecks:
    """Checks of a whole machine, so that nothing else may have changed."""

    def check(self, machine, total, mark, at, changed=None):
        """One deed gives None; of the cells just the changed ones are other than ahead."""
        cells = list(machine.cells)
        for place, number in (changed or {}).items():
            cells[place] = number
        self.assertIsNone(deed(machine))
        self.assertEqual(state(machine), (tuple(cells), total, mark, at))
        self.check_kinds(machine)

    def check_kinds(self, machine):
        self.assertIs(type(machine.cells), list)
        numbers = machine.cells + [machine.total, machine.mark, machine.at]
        self.assertEqual({type(number) for number in numbers}, {int})
