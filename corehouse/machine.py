"""The small machine and its deeds."""

from corehouse.words import ADD, AND, ASK, BITS, CALL, GO, PLACES, PUT, RISE, WORDS, parts


class Machine:
    def __init__(self, cells, total, mark, at):
        self.cells = list(cells)
        self.total = total
        self.mark = mark
        self.at = at


def deed(machine):
    told = parts(machine.cells[machine.at])
    kind = told[0]
    far = told[1]
    place = told[2]
    # The at moves ahead of the deed: a call keeps it, and a go or a skip starts from it.
    move_on(machine)
    if kind == ASK:
        return place
    if kind == BITS and far == 0:
        do_change(machine, place)
    elif kind == BITS:
        do_test(machine, place)
    elif far == 0:
        do_with_cell(machine, kind, place)
    else:
        do_with_cell(machine, kind, far_place(machine, place))
    return None


def move_on(machine):
    machine.at = place_behind(machine.at)


def place_behind(place):
    return (place + 1) % PLACES


def raise_cell(machine, place):
    machine.cells[place] = (machine.cells[place] + 1) % WORDS


def far_place(machine, place):
    # These four cells rise ahead of their use, so that a loop can walk a row of cells through one.
    if 8 <= place <= 11:
        raise_cell(machine, place)
    return machine.cells[place] % PLACES


def do_with_cell(machine, kind, place):
    if kind == AND:
        machine.total = machine.total & machine.cells[place]
    elif kind == ADD:
        add_to_total(machine, machine.cells[place])
    elif kind == RISE:
        do_rise(machine, place)
    elif kind == PUT:
        machine.cells[place] = machine.total
        machine.total = 0
    elif kind == CALL:
        machine.cells[place] = machine.at
        machine.at = place_behind(place)
    elif kind == GO:
        machine.at = place


def add_to_total(machine, amount):
    machine.total = machine.total + amount
    if machine.total >= WORDS:
        machine.total = machine.total - WORDS
        turn_mark(machine)


def turn_mark(machine):
    machine.mark = 1 - machine.mark


def do_rise(machine, place):
    raise_cell(machine, place)
    if machine.cells[place] == 0:
        move_on(machine)


def has_bit(place, bit):
    return place // bit % 2 == 1


def do_change(machine, place):
    if has_bit(place, 32):
        machine.total = 0
    if has_bit(place, 16):
        machine.total = WORDS - 1 - machine.total
    if has_bit(place, 8):
        turn_mark(machine)
    if has_bit(place, 4):
        add_to_total(machine, 1)
    if has_bit(place, 2) and not has_bit(place, 1):
        shift_left(machine)
    if has_bit(place, 1) and not has_bit(place, 2):
        shift_right(machine)


def shift_left(machine):
    doubled = machine.total * 2 + machine.mark
    machine.total = doubled % WORDS
    machine.mark = doubled // WORDS


def shift_right(machine):
    left_over = machine.total % 2
    machine.total = machine.total // 2 + machine.mark * (WORDS // 2)
    machine.mark = left_over


def do_test(machine, place):
    # The skip comes first: the total and the mark are asked as they were ahead of zero and flat.
    if test_is_so(machine, place):
        move_on(machine)
    if has_bit(place, 2):
        machine.total = 0
    if has_bit(place, 1):
        machine.mark = 0


def test_is_so(machine, place):
    so = (
        (has_bit(place, 32) and machine.total >= WORDS // 2)
        or (has_bit(place, 16) and machine.total == 0)
        or (has_bit(place, 8) and machine.mark == 1)
    )
    if has_bit(place, 4):
        return not so
    return so
