"""Cells, shown as a text."""

from corehouse.machine import has_bit
from corehouse.scan import ASKS, BIT_ROW, CHANGES, DEEDS, TESTS
from corehouse.words import AND, ASK, BITS, GO, parts


def shown(cells):
    rows = []
    # No place at first: also a cell at 0 has its line place, if it is shown first.
    following = None
    for place, told in enumerate(cells):
        if told != 0:
            if place != following:
                rows.append(f"place {place}")
            rows.append(deed_line(told))
            following = place + 1
    return "\n".join(rows)


def deed_line(told):
    shape = parts(told)
    kind = shape[0]
    far = shape[1]
    place = shape[2]
    if AND <= kind <= GO:
        return cell_line(DEEDS[kind], far, place)
    if kind == ASK and far == 0 and place < len(ASKS):
        return ask_line(ASKS[place])
    if kind == BITS and far == 0:
        return bits_line("change", CHANGES, place)
    if kind == BITS:
        return bits_line("test", TESTS, place)
    return f"word {told}"


def cell_line(name, far, place):
    if far == 1:
        return f"{name} far {place}"
    return f"{name} {place}"


def ask_line(name):
    return f"ask {name}"


def bits_line(name, names, place):
    return " ".join([name] + [told for told, bit in zip(names, BIT_ROW) if has_bit(place, bit)])
