import random
import unittest

from corehouse.listing import shown
from corehouse.texts import assembled
from helpers import ASK, BITS, cells_with, chance_cells, told

DEEDS = ("and", "add", "rise", "put", "call", "go")
ASKS = ("heard", "hear", "room", "say", "sleep", "fetch", "store", "stop", "look")


class ShownTest(unittest.TestCase):
    def check(self, cells, *lines):
        """The text is of these lines, and gives the cells again; the list stays."""
        row = cells_with(cells)
        kept = list(row)
        text = shown(row)
        self.assertIs(type(text), str)
        self.assertEqual(text, "\n".join(lines))
        self.assertEqual(row, kept)
        self.assertEqual(assembled(text), kept)

    def check_word(self, word, line):
        self.check({7: word}, "place 7", line)

    def test_cells_all_0(self):
        self.assertEqual(shown([0] * 64), "")
        self.check({})

    def test_one_cell(self):
        for place in range(64):
            self.check({place: 5}, f"place {place}", "and 5")

    def test_a_cell_at_0_has_its_line_place(self):
        self.check({0: 5}, "place 0", "and 5")
        self.check({0: 5, 1: 6, 2: 7}, "place 0", "and 5", "and 6", "and 7")

    def test_cells_in_a_row_have_one_line_place(self):
        self.check({10: 1, 11: 2, 12: 3}, "place 10", "and 1", "and 2", "and 3")
        self.check({62: 1, 63: 2}, "place 62", "and 1", "and 2")

    def test_a_gap_of_one(self):
        self.check({0: 1, 2: 2}, "place 0", "and 1", "place 2", "and 2")
        self.check({10: 1, 12: 2, 13: 3, 15: 4}, "place 10", "and 1", "place 12", "and 2", "and 3", "place 15", "and 4")

    def test_a_gap_of_more(self):
        self.check({1: 1, 63: 2}, "place 1", "and 1", "place 63", "and 2")
        self.check({0: 1, 3: 2, 60: 3}, "place 0", "and 1", "place 3", "and 2", "place 60", "and 3")

    def test_the_last_cell_and_the_first(self):
        self.check({0: 1, 63: 2}, "place 0", "and 1", "place 63", "and 2")

    def test_64_cells(self):
        self.check(dict(enumerate([769] * 64)), "place 0", *["ask hear"] * 64)

    def test_deeds_with_a_cell(self):
        for kind, name in enumerate(DEEDS):
            for place in range(64):
                if (kind, place) != (0, 0):
                    self.check_word(told(kind, 0, place), f"{name} {place}")
                self.check_word(told(kind, 1, place), f"{name} far {place}")

    def test_asks(self):
        for place, name in enumerate(ASKS):
            self.check_word(told(ASK, 0, place), f"ask {name}")

    def test_asks_with_far_or_another_place(self):
        for place in range(64):
            self.check_word(told(ASK, 1, place), f"word {832 + place}")
        for place in range(9, 64):
            self.check_word(told(ASK, 0, place), f"word {768 + place}")

    def test_changes(self):
        words = ("zero", "turn", "flip", "more", "left", "right")
        for place in range(64):
            chosen = [word for number, word in enumerate(words) if f"{place:06b}"[number] == "1"]
            self.check_word(told(BITS, 0, place), " ".join(["change"] + chosen))

    def test_tests(self):
        words = ("minus", "none", "mark", "not", "zero", "flat")
        for place in range(64):
            chosen = [word for number, word in enumerate(words) if f"{place:06b}"[number] == "1"]
            self.check_word(told(BITS, 1, place), " ".join(["test"] + chosen))

    def test_some_words_by_hand(self):
        for word, line in {
            1: "and 1",
            63: "and 63",
            64: "and far 0",
            128: "add 0",
            767: "go far 63",
            768: "ask heard",
            776: "ask look",
            777: "word 777",
            832: "word 832",
            895: "word 895",
            896: "change",
            900: "change more",
            928: "change zero",
            959: "change zero turn flip more left right",
            960: "test",
            962: "test zero",
            1001: "test minus mark flat",
            1023: "test minus none mark not zero flat",
        }.items():
            self.check_word(word, line)

    def test_assembled_gives_the_same_cells_for_each_word(self):
        for word in range(1024):
            for place in (0, 31, 63):
                cells = cells_with({place: word})
                self.assertEqual(assembled(shown(cells)), cells)

    def test_assembled_gives_the_same_cells_for_drawn_cells(self):
        chance = random.Random(1)
        for count in range(300):
            full = chance.choice((chance_cells(chance), [chance.randrange(1024) for number in range(64)]))
            few = chance.randrange(10)
            cells = [word if chance.randrange(10) >= few else 0 for word in full]
            kept = list(cells)
            text = shown(cells)
            self.assertEqual(cells, kept)
            self.assertEqual(assembled(text), cells)
            self.assertEqual(shown(assembled(text)), text)
            self.check_lines(text, cells)

    def check_lines(self, text, cells):
        """The lines place are those that begin a row of cells that are not 0."""
        begun = [place for place in range(64) if cells[place] != 0 and (place == 0 or cells[place - 1] == 0)]
        lines = text.split("\n") if text else []
        self.assertEqual([line for line in lines if line.startswith("place")], [f"place {place}" for place in begun])
        self.assertEqual(len(lines) - len(begun), 64 - cells.count(0))
        for line in lines:
            self.assertEqual(line, " ".join(line.split()))

    def test_the_argument_bears_its_name(self):
        self.assertEqual(shown(cells=cells_with({3: 769})), "place 3\nask hear")

    def test_words_somewhat_beyond_are_not_refused(self):
        self.assertEqual(shown(cells_with({3: 1024})), "place 3\nword 1024")
        self.assertEqual(shown(cells_with({3: -1})), "place 3\nword -1")


if __name__ == "__main__":
    unittest.main()
