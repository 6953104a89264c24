"""Lines of a text, read one by one: what stands in them, whatever the other lines say."""

from corehouse.errors import NoDeed
from corehouse.words import ASK, BITS, word

# By their kinds, by their places and by their bits, so that an index tells the number.
DEEDS = ("and", "add", "rise", "put", "call", "go")
ASKS = ("heard", "hear", "room", "say", "sleep", "fetch", "store", "stop", "look")
CHANGES = ("zero", "turn", "flip", "more", "left", "right")
TESTS = ("minus", "none", "mark", "not", "zero", "flat")
BIT_ROW = (32, 16, 8, 4, 2, 1)

OTHER_WORDS = ("place", "word", "far", "ask", "change", "test", "here")

SMALL_LETTERS = "abcdefghijklmnopqrstuvwxyz"
FIGURES = "0123456789"
MOST_SIGNS = 8
MOST_FIGURES = 4


class Line:
    def __init__(self, number):
        self.number = number
        self.label = None
        self.name = None
        # The word without its value: that is known only when all labels are told.
        self.base = 0
        self.pooled = False
        self.terms = []


def read_line(row, number):
    line = Line(number)
    pieces = pieces_of(row)
    if len(pieces) > 0 and pieces[0].endswith(":"):
        read_label(line, pieces[0])
        pieces = pieces[1:]
    if len(pieces) > 0:
        read_deed(line, pieces[0], pieces[1:])
    return line


def pieces_of(row):
    looked_at = row.partition(";")[0]
    # Split by the blank alone: every other sign, a tab too, then stands in a piece, where it is looked at.
    return [piece for piece in looked_at.split(" ") if piece != ""]


def read_label(line, piece):
    line.label = piece[:-1]
    if not is_name(line.label):
        raise NoDeed(line.number)


def is_name(piece):
    return is_short_name(piece) and not is_told_word(piece)


def is_short_name(piece):
    if not 1 <= len(piece) <= MOST_SIGNS:
        return False
    return piece[0] in SMALL_LETTERS and all([sign in SMALL_LETTERS or sign in FIGURES for sign in piece])


def is_told_word(piece):
    return piece in DEEDS or piece in ASKS or piece in CHANGES or piece in TESTS or piece in OTHER_WORDS


def read_deed(line, name, behind):
    line.name = name
    if name == "place" or name == "word":
        read_value(line, behind)
    elif name in DEEDS:
        read_cell_deed(line, behind)
    elif name == "ask":
        line.base = word(ASK, 0, read_ask(line, behind))
    elif name == "change":
        line.base = word(BITS, 0, read_bits(line, behind, CHANGES))
    elif name == "test":
        line.base = word(BITS, 1, read_bits(line, behind, TESTS))
    else:
        raise NoDeed(line.number)


def read_cell_deed(line, behind):
    far = 0
    if len(behind) > 0 and behind[0] == "far":
        far = 1
        behind = behind[1:]
    line.base = word(DEEDS.index(line.name), far, 0)
    if len(behind) > 0 and behind[0].startswith("="):
        line.pooled = True
        behind = [behind[0][1:]] + behind[1:]
    read_value(line, behind)


def read_ask(line, behind):
    if len(behind) != 1 or behind[0] not in ASKS:
        raise NoDeed(line.number)
    return ASKS.index(behind[0])


def read_bits(line, behind, names):
    place = 0
    for name in behind:
        if name not in names or behind.count(name) > 1:
            raise NoDeed(line.number)
        place = place + BIT_ROW[names.index(name)]
    return place


def read_value(line, behind):
    if len(behind) != 1:
        raise NoDeed(line.number)
    factor = 1
    # With blanks round the signs, terms and signs stand by turns, and a term that is missing is empty.
    for number, piece in enumerate(behind[0].replace("+", " + ").replace("-", " - ").split(" ")):
        if number % 2 == 1:
            factor = 1 if piece == "+" else -1
        elif is_term(piece):
            line.terms.append((factor, piece))
        else:
            raise NoDeed(line.number)


def is_term(piece):
    return piece == "here" or is_name(piece) or is_figures(piece)


def is_figures(piece):
    return 1 <= len(piece) <= MOST_FIGURES and all([sign in FIGURES for sign in piece])
