"""Texts, made into cells."""

from corehouse.errors import NoName, OutOfBounds, Taken, Twice
from corehouse.scan import FIGURES, read_line
from corehouse.words import PLACES, WORDS


class Sheet:
    def __init__(self):
        self.labels = {}
        self.made = {}
        self.pool = {}
        self.here = 0


def assembled(text):
    sheet = Sheet()
    lines = go_over_first(sheet, text)
    sheet.here = 0
    go_over_again(sheet, lines)
    return [sheet.made.get(place, 0) for place in range(PLACES)]


def go_over_first(sheet, text):
    lines = []
    # Each line is read only when those ahead of it are held good: the first line at fault is the one refused.
    for number, row in enumerate(text.split("\n"), start=1):
        line = read_line(row, number)
        tell_label(sheet, line)
        move_here(sheet, line)
        lines.append(line)
    return lines


def go_over_again(sheet, lines):
    for line in lines:
        if makes_cell(line):
            make_cell(sheet, line, sheet.here, word_of(sheet, line))
        move_here(sheet, line)


def makes_cell(line):
    return line.name is not None and line.name != "place"


def tell_label(sheet, line):
    if line.label is not None:
        if line.label in sheet.labels:
            raise Twice(line.number)
        sheet.labels[line.label] = sheet.here


def move_here(sheet, line):
    if line.name == "place":
        sheet.here = bounded_value(sheet, line, PLACES)
    elif makes_cell(line):
        if sheet.here >= PLACES:
            raise OutOfBounds(line.number)
        sheet.here = sheet.here + 1


def bounded_value(sheet, line, bound):
    value = 0
    for factor, term in line.terms:
        value = value + factor * term_value(sheet, line, term)
    if not 0 <= value < bound:
        raise OutOfBounds(line.number)
    return value


def term_value(sheet, line, term):
    if term == "here":
        return sheet.here
    if term[0] in FIGURES:
        return int(term)
    if term not in sheet.labels:
        raise NoName(line.number)
    return sheet.labels[term]


def word_of(sheet, line):
    if line.pooled:
        return line.base + pool_place(sheet, line)
    if line.name == "word":
        return line.base + bounded_value(sheet, line, WORDS)
    # Asks, changes and tests have no terms: their base is the whole word, and their value 0.
    return line.base + bounded_value(sheet, line, PLACES)


def pool_place(sheet, line):
    pool_word = bounded_value(sheet, line, WORDS)
    if pool_word not in sheet.pool:
        place = PLACES - 1 - len(sheet.pool)
        make_cell(sheet, line, place, pool_word)
        sheet.pool[pool_word] = place
    return sheet.pool[pool_word]


def make_cell(sheet, line, place, made_word):
    if place < 0 or place in sheet.made:
        raise Taken(line.number)
    sheet.made[place] = made_word
