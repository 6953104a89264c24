"""Texts that are refused: the class, the line, and which refusal is the first."""

import random
import re
import unittest

from corehouse import errors
from corehouse.errors import NoDeed, NoName, OutOfBounds, Taken, Twice
from corehouse.texts import assembled
from helpers import ADD, TextChecks, told

FULL = "\n".join(["word 7"] * 64)


class FirstGoingTest(TextChecks, unittest.TestCase):
    def test_a_line_that_is_not_as_told(self):
        self.check_refused("bogus", NoDeed, 1)
        self.check_refused("word 5\n\n; remark\nbogus", NoDeed, 4)
        self.check_refused("bogus\nbogus", NoDeed, 1)

    def test_a_label_that_was_told(self):
        self.check_refused("a:\na:", Twice, 2)
        self.check_refused("a: word 5\nb: word 5\n\na: word 5", Twice, 4)
        self.check_refused("a: word 5\na: place 3", Twice, 2)
        self.check_refused("a:\nb:\nb:\na:", Twice, 3)
        self.check_refused("place 63\nword 1\na:\na:", Twice, 4)

    def test_labels_that_are_near_to_one_another(self):
        self.check_text("a:\naa:\na1:\na11:\nb: word a", {})

    def test_a_name_behind_place_that_was_not_told(self):
        self.check_refused("place a", NoName, 1)
        self.check_refused("word 5\nplace a+1", NoName, 2)
        self.check_refused("b:\nplace b+a", NoName, 2)
        self.check_refused("place 5-a-a", NoName, 1)

    def test_a_name_behind_place_that_is_told_later(self):
        self.check_refused("place a\na: word 5", NoName, 1)
        self.check_refused("b: place a\na: word 5", NoName, 1)

    def test_the_label_of_its_own_line_is_told(self):
        self.check_text("a: place a+9\nword 5", {9: 5})
        self.check_text("word 1\na: place a+a+a\nword 5", {0: 1, 3: 5})

    def test_a_value_behind_place_that_is_not_a_place(self):
        for value in ("64", "65", "1023", "1024", "9999", "0-1", "5-6", "63+1", "0-9999", "here-1", "here+64"):
            self.check_refused(f"place {value}", OutOfBounds, 1)
            self.check_refused(f"; one\na: place {value}\nword 5", OutOfBounds, 2)
        self.check_refused("place 63\nword 5\na:\nplace a", OutOfBounds, 4)
        self.check_refused("place 63\nword 5\nplace here", OutOfBounds, 3)
        self.check_refused("place 63\nword 5\na: place a", OutOfBounds, 3)

    def test_a_deed_that_makes_a_cell_at_64(self):
        for deed in ("word 5", "add 5", "add far 5", "add =5", "ask hear", "change", "test zero"):
            self.check_refused(f"{FULL}\n{deed}", OutOfBounds, 65)
            self.check_refused(f"place 63\nword 5\n\n{deed}", OutOfBounds, 4)
            self.check_refused(f"place 63\nword 5\na:\nb: {deed}", OutOfBounds, 4)

    def test_lines_at_64_that_make_no_cell(self):
        for line in ("", "; remark", "a:", "place 63", "place here-1", "a: place a-64"):
            self.check_text(f"{FULL}\n{line}", {place: 7 for place in range(64)})


class TabsTest(TextChecks, unittest.TestCase):
    LINES = (
        "", " ", "a:", "add 5", " add 5 ", "add far 5", "add =5", "add far =5", "a: add 5", "place 5", "a: place 5",
        "word 5", "word 15+16-here", "ask say", "change", "change zero turn", "test", "test minus not", "a: test",
    )

    def test_a_tab_at_each_place_of_a_line(self):
        for line in self.LINES:
            assembled(line)
            for place in range(len(line) + 1):
                for tabs in ("\t", "\t\t", " \t", "\t ", " \t "):
                    spoiled = line[:place] + tabs + line[place:]
                    self.check_refused(spoiled, NoDeed, 1)
                    self.check_refused(spoiled + ";x", NoDeed, 1)

    def test_a_tab_in_the_place_of_each_blank(self):
        for line in self.LINES:
            for place, sign in enumerate(line):
                if sign == " ":
                    self.check_refused(line[:place] + "\t" + line[place + 1:], NoDeed, 1)

    def test_a_line_of_tabs(self):
        for line in ("\t", "\t\t", " \t", "\t ", " \t \t ", "\t;", "\t;x", " \t ; x"):
            self.check_refused(line, NoDeed, 1)
            self.check_refused(f"word 7\n{line}\nword 8", NoDeed, 2)
            self.check_refused(f"{FULL}\n{line}", NoDeed, 65)

    def test_tabs_behind_a_semicolon_are_not_looked_at(self):
        for line in self.LINES:
            for remark in (";\t", "; \t", ";\tadd 5", ";a:\t;\t", ";\t\t"):
                self.assertEqual(assembled(line + remark), assembled(line))

    def test_the_first_line_with_a_fault(self):
        for line in ("word 7\t", "\tword 7", "word\t7", "\t", "a:\tword 7"):
            for other in ("add 5!", "t:", "place q", "place 64", "word q", "\t"):
                self.check_refused(f"t:\n{line}\n{other}", NoDeed, 2)
        self.check_refused("t:\nt:\nword 7\t", Twice, 2)
        self.check_refused("place q\nword 7\t", NoName, 1)
        self.check_refused("place 64\nword 7\t", OutOfBounds, 1)
        self.check_refused("word q\nword 1024\nword 7\t", NoDeed, 3)

    def test_a_tab_in_a_line_with_another_fault(self):
        for line in ("t:\t", "\tt:", "t:\tword 5", "place q\t", "place\t64", "\tword q", "word 1024\t", "go\t64"):
            self.check_refused(f"t:\n{line}", NoDeed, 2)
        self.check_refused(f"{FULL}\nword 5\t", NoDeed, 65)


class SecondGoingTest(TextChecks, unittest.TestCase):
    def test_a_name_that_was_not_told(self):
        for line in ("word a", "add a", "add far a", "add =a", "add far =a", "word 5+a", "word b-a", "go here+a"):
            self.check_refused(f"b: word 5\n{line}", NoName, 2)
            self.check_refused(f"{line}\nb: word 5\n{line}", NoName, 1)

    def test_a_word_that_is_none(self):
        for value in ("1024", "1025", "9999", "0-1", "0-9999", "1023+1", "5-6", "here-3", "b+9999"):
            self.check_refused(f"word 5\nb: word {value}", OutOfBounds, 2)

    def test_a_pool_word_that_is_none(self):
        for value in ("1024", "1025", "9999", "0-1", "0-9999", "1023+1", "5-6", "here-3", "b+9999"):
            self.check_refused(f"word 5\nb: add ={value}", OutOfBounds, 2)
            self.check_refused(f"word 5\nb: add far ={value}", OutOfBounds, 2)

    def test_a_place_that_is_none(self):
        for name in ("and", "add", "rise", "put", "call", "go"):
            for value in ("64", "65", "1023", "9999", "0-1", "63+1", "5-6", "here-3", "b+63"):
                self.check_refused(f"word 5\nb: {name} {value}", OutOfBounds, 2)
                self.check_refused(f"word 5\nb: {name} far {value}", OutOfBounds, 2)

    def test_the_label_behind_the_last_cell_is_a_word_but_no_place(self):
        self.check_refused("go a\nplace 63\nword 5\na:", OutOfBounds, 1)
        self.check_text("word a\nadd =a-1\nplace 62\nword 5\na: place 2\nword a+1", {
            0: 63, 1: told(ADD, 0, 63), 2: 64, 62: 5, 63: 62,
        })

    def test_a_cell_that_is_made_twice(self):
        self.check_refused("word 5\nplace 0\nword 5", Taken, 3)
        self.check_refused("word 5\nword 6\nplace 0\n\nadd 5", Taken, 5)
        self.check_refused("place 1\nword 6\nplace 0\nadd 5\nask hear", Taken, 5)
        self.check_refused("word 0\nplace 0\nword 0", Taken, 3)
        self.check_refused(f"{FULL}\nplace 63\nchange", Taken, 66)

    def test_a_cell_where_a_pool_cell_is(self):
        self.check_refused("add =5\nplace 63\nword 5", Taken, 3)
        self.check_refused("add =5\nadd =6\nplace 62\nword 5", Taken, 4)
        self.check_refused("add =0\nplace 63\nword 0", Taken, 3)
        self.check_text("add =5\nplace 62\nword 5", {0: told(ADD, 0, 63), 62: 5, 63: 5})

    def test_a_pool_cell_where_a_cell_is(self):
        self.check_refused("place 63\nword 5\nplace 0\nadd =5", Taken, 4)
        self.check_refused("place 62\nword 0\nplace 0\nadd =5\nadd =5\nadd =6", Taken, 6)
        self.check_refused(f"{FULL}".replace("word 7", "add =7", 1), Taken, 64)

    def test_a_pool_cell_where_the_lines_own_cell_is_to_be(self):
        self.check_refused("place 63\nadd =5", Taken, 2)
        self.check_refused("add =4\nplace 62\nadd =5", Taken, 3)
        self.check_text("add =4\nplace 62\nadd =4", {0: told(ADD, 0, 63), 62: told(ADD, 0, 63), 63: 4})

    def test_a_lines_own_cell_that_is_taken_though_its_pool_cell_is_not(self):
        self.check_refused("word 5\nplace 0\nadd =5", Taken, 3)
        self.check_refused("add =5\nplace 0\nadd =6", Taken, 3)

    def test_more_pool_cells_than_there_is_room(self):
        self.check_refused("\n".join(f"add ={number}" for number in range(33)), Taken, 33)
        self.check_refused("\n".join(f"add ={number}" for number in range(64)), Taken, 33)
        self.check_refused("\n".join(["add =5"] * 64), Taken, 64)

    def test_a_place_line_is_not_refused_anew(self):
        self.check_refused("a: place 5\nplace a+1\nword b\nb:\nplace b+1\nword c", NoName, 6)


class FirstRefusalTest(TextChecks, unittest.TestCase):
    FIRST = (("bogus", NoDeed), ("t:", Twice), ("place q", NoName), ("place 64", OutOfBounds))
    SECOND = (("word q", NoName), ("word 1024", OutOfBounds), ("go 64", OutOfBounds), ("add =1024", OutOfBounds))

    def test_two_faults_of_the_first_going_over(self):
        for line, refusal in self.FIRST:
            for other, later in self.FIRST:
                self.check_refused(f"t:\n{line}\nword 5\n{other}", refusal, 2)

    def test_two_faults_of_the_second_going_over(self):
        faults = self.SECOND + (("place 3\nword 5", Taken),)
        for line, refusal in faults:
            for other, later in faults:
                number = 6 if refusal is Taken else 5
                self.check_refused(f"place 3\nword 5\nplace 10\n; x\n{line}\nplace 20\n{other}", refusal, number)

    def test_a_fault_of_the_second_ahead_of_one_of_the_first(self):
        for line, refusal in self.SECOND:
            for other, later in self.FIRST:
                self.check_refused(f"t:\n{line}\n\n{other}", later, 4)
        for other, later in self.FIRST:
            self.check_refused(f"t: word 5\nplace 0\nword 5\n{other}", later, 4)

    def test_a_cell_at_64_behind_faults_of_the_second(self):
        self.check_refused(f"add 64\nplace 0\n{FULL}\nadd x", OutOfBounds, 67)
        self.check_refused("place 63\nword q\nword q", OutOfBounds, 3)

    def test_faults_of_one_line_of_the_first_going_over(self):
        self.check_refused("t:\nt: bogus", NoDeed, 2)
        self.check_refused("t:\nt: place q", Twice, 2)
        self.check_refused("t:\nt: place 64", Twice, 2)
        self.check_refused("t:\nt: place 5+", NoDeed, 2)
        self.check_refused("place 99999", NoDeed, 1)
        self.check_refused("place q+64", NoName, 1)
        self.check_refused("place 64+q", NoName, 1)
        self.check_refused("place q+", NoDeed, 1)
        self.check_refused(f"t:\n{FULL}\nt: word 5", Twice, 66)
        self.check_refused(f"{FULL}\nword", NoDeed, 65)

    def test_faults_of_both_goings_over_in_one_line(self):
        self.check_refused("t:\nt: word q", Twice, 2)
        self.check_refused(f"{FULL}\nword q", OutOfBounds, 65)
        self.check_refused("word q+", NoDeed, 1)

    def test_faults_of_one_line_of_the_second_going_over(self):
        self.check_refused("word 1024+q", NoName, 1)
        self.check_refused("word q+1024", NoName, 1)
        self.check_refused("go 64-q", NoName, 1)
        for line, refusal in self.SECOND:
            self.check_refused(f"word 5\nplace 0\n{line}", refusal, 3)
        self.check_refused("place 63\nword 5\nplace 0\nadd =q", NoName, 4)
        self.check_refused("place 63\nword 5\nplace 0\nadd =1024", OutOfBounds, 4)
        self.check_refused("place 63\nword 5\nadd 5", OutOfBounds, 3)

    def test_what_is_refused_leaves_the_next_text_alone(self):
        self.check_refused("a: add =5\na:", Twice, 2)
        self.check_text("a: add =6", {0: told(ADD, 0, 63), 63: 6})


KINDS = ["and", "add", "rise", "put", "call", "go"]
ASKS = ["heard", "hear", "room", "say", "sleep", "fetch", "store", "stop", "look"]
BIT_WORDS = {
    "change": ["right", "left", "more", "flip", "turn", "zero"],
    "test": ["flat", "zero", "not", "mark", "none", "minus"],
}
WORDS_TOLD = KINDS + ASKS + BIT_WORDS["change"] + BIT_WORDS["test"] + "place word far ask change test here".split()
NAME = r"(?!(?:%s)(?![a-z0-9]))[a-z][a-z0-9]{0,7}(?![a-z0-9])" % "|".join(WORDS_TOLD)
TERM = rf"(?:[0-9]{{1,4}}(?![a-z0-9])|here(?![a-z0-9])|{NAME})"
VALUE = rf"{TERM}(?:[+-]{TERM})*"
LABEL = rf"(?:({NAME}):(?: |$))?"
LINE = re.compile(
    rf"{LABEL}(?:(place|word) ({VALUE})|({'|'.join(KINDS)})( far)? (=?)({VALUE})|ask ({'|'.join(ASKS)})"
    rf"|(change|test)((?: [a-z]+)*)|)"
)


class Second:
    """A text made into cells another way: each line by one pattern, and all faults of a going over gathered."""

    def __init__(self, text):
        self.rows = [re.sub(" +", " ", row.split(";")[0]).strip(" ") for row in text.split("\n")]
        self.faults = []
        self.labels = {}
        self.cells = {}
        self.pool = []

    def value(self, written, here, line):
        names = dict(self.labels, here=here)
        total = 0
        for sign, term in re.findall(r"([+-]?)([a-z0-9]+)", written):
            if not term.isdigit() and term not in names:
                self.faults.append((line, 2, "NoName"))
                return None
            total += (-1 if sign == "-" else 1) * (int(term) if term.isdigit() else names[term])
        return total

    def bounded(self, written, here, line, bound):
        value = self.value(written, here, line)
        if value is not None and value not in range(bound):
            self.faults.append((line, 3, "OutOfBounds"))
            return None
        return value

    def bits(self, match):
        chosen = match[10].split()
        known = BIT_WORDS[match[9]]
        if len(set(chosen)) < len(chosen) or set(chosen) - set(known):
            return None
        return sum(2 ** known.index(name) for name in chosen)

    def outcome(self):
        for going in (self.first, self.second):
            going()
            if self.faults:
                line, rank, name = min(self.faults)
                return (name, line)
        return [self.cells.get(place, 0) for place in range(64)]

    def first(self):
        here = 0
        for line, row in enumerate(self.rows, 1):
            match = LINE.fullmatch(row)
            if match is None or (match[9] and self.bits(match) is None):
                self.faults.append((line, 0, "NoDeed"))
                return
            if match[1] in self.labels:
                self.faults.append((line, 1, "Twice"))
                return
            if match[1]:
                self.labels[match[1]] = here
            if match[2] == "place":
                here = self.bounded(match[3], here, line, 64)
            elif match[2] or match[4] or match[8] or match[9]:
                here += 1
                if here > 64:
                    self.faults.append((line, 4, "OutOfBounds"))
            if self.faults:
                return

    def second(self):
        here = 0
        for line, row in enumerate(self.rows, 1):
            match = LINE.fullmatch(row)
            made = None
            if match[2] == "place":
                here = self.bounded(match[3], here, line, 64)
            elif match[2]:
                made = self.bounded(match[3], here, line, 1024)
            elif match[4]:
                value = self.bounded(match[7], here, line, 1024 if match[6] else 64)
                if match[6] and value is not None:
                    value = self.pooled(value, line)
                if value is not None:
                    made = KINDS.index(match[4]) * 128 + (64 if match[5] else 0) + value
            elif match[8]:
                made = 768 + ASKS.index(match[8])
            elif match[9]:
                made = {"change": 896, "test": 960}[match[9]] + self.bits(match)
            if made is not None:
                self.make(here, made, line)
                here += 1
            if self.faults:
                return

    def pooled(self, value, line):
        if value not in self.pool:
            self.pool.append(value)
            self.make(64 - len(self.pool), value, line)
        return 63 - self.pool.index(value)

    def make(self, place, made, line):
        if place in self.cells or place < 0:
            self.faults.append((line, 5, "Taken"))
        self.cells[place] = made


class Drawn:
    """Texts by chance: most lines are as told, some are near it."""

    NAMES = ("a", "b", "c1", "loop", "end", "buffer12")

    def __init__(self, seed, faults):
        self.chance = random.Random(seed)
        self.faults = faults
        self.told = []

    def term(self, bound):
        what = self.chance.randrange(100)
        if what < 60 or not self.told:
            figures = str(self.chance.randrange(bound))
            return figures.zfill(self.chance.choice((len(figures), 4)))
        if what < 75:
            return "here"
        return self.chance.choice(self.told if what < 99 else self.NAMES)

    def value(self, bound):
        written = self.term(bound)
        while self.chance.randrange(4) == 0:
            written += self.chance.choice("+-") + self.term(bound // 4 + 1)
        return written

    def deed(self):
        what = self.chance.randrange(12)
        if what < 1:
            return f"place {self.chance.choice((self.value(60), self.chance.randrange(64)))}"
        if what < 4:
            return f"word {self.value(1024)}"
        if what < 6:
            name = self.chance.choice(("change", "test"))
            return " ".join([name] + self.chance.sample(BIT_WORDS[name], self.chance.randrange(7)))
        if what < 7:
            return f"ask {self.chance.choice(ASKS)}"
        far = self.chance.choice(("", "", "far "))
        if what < 9:
            return f"{self.chance.choice(KINDS)} {far}={self.chance.choice((self.value(1024), self.value(4)))}"
        return f"{self.chance.choice(KINDS)} {far}{self.value(64)}"

    def line(self, labels):
        pieces = [f"{label}:" for label in labels] + ([self.deed()] if self.chance.randrange(8) else [])
        line = "".join(self.chance.choice(("", "", " ", "   ")) for count in range(2)) + " ".join(pieces)
        if self.chance.randrange(8) == 0:
            line += self.chance.choice((";", ";\t", " ; a: remark\t; place 99"))
        if self.faults and self.chance.randrange(20) == 0:
            return self.spoiled(line)
        return line

    def spoiled(self, line):
        place = self.chance.randrange(len(line) + 1)
        return self.chance.choice((
            line[:place] + line[place + 1:],
            line[:place] + self.chance.choice(" \t;:=+-0aZ9~h") + line[place:],
            line + " " + self.chance.choice(WORDS_TOLD),
            self.chance.choice(WORDS_TOLD) + " " + line,
        ))

    def text(self):
        count = self.chance.choice((1, 2, 3, 5, 8, 20, 30, 70))
        self.told = self.chance.sample(self.NAMES, self.chance.randrange(min(count, len(self.NAMES)) + 1))
        labels = dict(zip(self.chance.sample(range(count), len(self.told)), self.told))
        if labels and self.chance.randrange(10) == 0:
            labels[self.chance.randrange(count)] = self.chance.choice(self.told)
        return "\n".join(self.line([labels[number]] if number in labels else []) for number in range(count))


class SecondTellingTest(TextChecks, unittest.TestCase):
    def outcome(self, text):
        try:
            made = assembled(text)
        except errors.BadText as error:
            return (type(error).__name__, error.line)
        self.check_made(made)
        return made

    def go(self, seed, faults, count):
        drawn = Drawn(seed, faults)
        met = {}
        for number in range(count):
            text = drawn.text()
            outcome = self.outcome(text)
            self.assertEqual(outcome, Second(text).outcome(), text)
            name = outcome[0] if isinstance(outcome, tuple) else "cells"
            met[name] = met.get(name, 0) + 1
        return met

    def test_drawn_texts(self):
        met = self.go(1, False, 4000)
        for name in ("cells", "Twice", "NoName", "OutOfBounds", "Taken"):
            self.assertGreater(met.get(name, 0), 20, met)
        self.assertNotIn("NoDeed", met)

    def test_drawn_texts_with_lines_that_are_spoiled(self):
        met = self.go(2, True, 4000)
        for name in ("cells", "NoDeed", "Twice", "NoName", "OutOfBounds", "Taken"):
            self.assertGreater(met.get(name, 0), 20, met)

    def test_each_sign_put_into_a_line_at_each_place(self):
        for line in ("b: add far =a+12-here", "change zero turn", "ask hear ;x", "place 12", "a12: word b"):
            for place in range(len(line) + 1):
                for number in list(range(32, 127)) + [9]:
                    text = f"a:\n{line[:place]}{chr(number)}{line[place:]}\nb:"
                    self.assertEqual(self.outcome(text), Second(text).outcome(), text)


if __name__ == "__main__":
    unittest.main()
