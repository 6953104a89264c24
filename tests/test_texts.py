"""What a text may say, and the cells that it gives."""

import unittest

from corehouse.errors import NoDeed
from corehouse.texts import assembled
from helpers import ADD, AND, ASK, BITS, CALL, GO, NOTHING, PUT, RISE, TextChecks, told

DEEDS = {"and": AND, "add": ADD, "rise": RISE, "put": PUT, "call": CALL, "go": GO}
ASKS = ("heard", "hear", "room", "say", "sleep", "fetch", "store", "stop", "look")
CHANGES = {"zero": 32, "turn": 16, "flip": 8, "more": 4, "left": 2, "right": 1}
TESTS = {"minus": 32, "none": 16, "mark": 8, "not": 4, "zero": 2, "flat": 1}
TOLD_WORDS = sorted(
    set(DEEDS) | set(ASKS) | set(CHANGES) | set(TESTS) | {"place", "word", "far", "ask", "change", "test", "here"}
)
CHOICES = ("change", 0, CHANGES), ("test", 1, TESTS)
NAMES = ("a", "z", "a1", "z9", "abcdefgh", "a2345678", "a0000000", "places", "wor", "ands", "heres", "fa", "x8x")
NO_NAMES = ("abcdefghi", "a23456789", "1a", "9", "0", "", "A", "Ab", "aB", "a_b", "a.b", "_a", "a'", "a!", "a=", "=a")


class KindsOfLinesTest(TextChecks, unittest.TestCase):
    def test_nothing(self):
        for line in ("", " ", "     ", ";", ";;", " ; ", "  ;x", ";\t", " ; \t x", "; add 5", "; place 99", ";a: A ~"):
            self.check_text(line, {})
            self.check_text(f"{line}\nword 7\n{line}\nword 8\n{line}", {0: 7, 1: 8})

    def test_a_label(self):
        for line in ("a:", " a:", "a: ", "  a:  ", "a:;", "a: ; b:", "a:;word 3", "a:;\t"):
            self.check_text(line, {})
            self.check_text(f"word 9\n{line}\nword a+5", {0: 9, 1: 6})

    def test_a_deed(self):
        for line in ("add 5", "  add   5  ", "add 5;", "add 5 ; 6", "add 5;far", " add 5;;:", "add 5 ;\there"):
            self.check_text(line, {0: 133})
            self.check_text(f"{line}\n{line}", {0: 133, 1: 133})

    def test_a_label_and_a_deed(self):
        for line in ("a: add 5", " a:  add  5 ", "a: add 5;", "  a: add 5 ; b:", "a: add 5;\tb:"):
            self.check_text(line, {0: 133})
            self.check_text(f"word 9\n{line}\nword a", {0: 9, 1: 133, 2: 1})

    def test_a_remark_of_all_signs(self):
        remark = "".join(chr(number) for number in range(32, 127)) + "\t"
        for line in ("", "a:", "word 5", "a: word 5"):
            self.assertEqual(assembled(f"{line};{remark}\nword 6"), assembled(f"{line}\nword 6"))

    def test_a_remark_hides_what_was_begun(self):
        for line in ("add ;5", "ask;hear", "add far;5", "place;5", "add =;5", "word 5+;6", "a;: word 5"):
            self.check_refused(line, NoDeed, 1)
        self.check_text("word 5;+6", {0: 5})
        self.check_text("change zero;turn", {0: told(BITS, 0, 32)})

    def test_a_line_end_ends_a_remark_and_a_line(self):
        self.check_text("; a\nword 5", {0: 5})
        self.check_text("word 5\n", {0: 5})
        self.check_text("word 5\n\n", {0: 5})
        self.check_text("\nword 5", {0: 5})
        self.check_refused("word\n5", NoDeed, 1)
        self.check_refused("add far\n5", NoDeed, 1)

    def test_parts_in_another_order_too_many_or_too_few(self):
        for line in (
            "add 5 a:", "a: b:", "a: b: add 5", "a b", "a", "a b:", "a : add 5", "a :", ": add 5", ":", "::", "a::",
            "a:add 5", "a:b:", "a:b", "5", "5 add", "=5", "add", "add 5 6", "add far", "add far far 5", "add 5 far",
            "far add 5", "far 5", "far", "add far 5 6", "add 5 add 6", "place", "place 5 6", "place far 5", "place =5",
            "place place", "word", "word 5 6", "word far 5", "word =5", "word add 5", "ask", "ask hear say",
            "ask far hear", "ask 1", "ask hear 1", "ask =1", "ask zero", "hear", "hear ask", "zero", "zero change",
            "change 32", "change far zero", "change zero 1", "change minus", "change none", "change mark",
            "change not", "change flat", "change zero, turn", "test 32", "test turn", "test flip", "test more",
            "test left", "test right", "test far", "here", "here:", "add here:", "add a:", "heard 5", "bogus 5",
        ):
            self.check_refused(line, NoDeed, 1)
            self.check_refused(f"l: {line}", NoDeed, 1)
            self.check_refused(f"\n{line} ; remark\nword 5", NoDeed, 2)

    def test_capitals(self):
        for line in ("ADD 5", "Add 5", "add FAR 5", "PLACE 5", "Word 5", "ask Hear", "ASK hear", "Test", "add Here"):
            self.check_refused(line, NoDeed, 1)

    def test_other_signs(self):
        for sign in "!\"#$%&'()*,./<>?@[\\]^_`{|}~:=":
            for line in ("word 5{}6", "word a{}", "{} word 5", "word 5 {}", "a{}b:", "ask{} hear", "{}", "word {}"):
                self.check_refused(line.replace("{}", sign), NoDeed, 1)

    def test_one_sign_by_itself(self):
        for number in range(33, 127):
            if number != ord(";"):
                self.check_refused(chr(number), NoDeed, 1)


class NamesTest(TextChecks, unittest.TestCase):
    def test_names(self):
        for name in NAMES:
            self.check_text(f"word 500\n{name}: word {name}", {0: 500, 1: 1})
            self.check_text(f"word {name}+1\n{name}:", {0: 2})
            self.check_text(f"go far {name}\n{name}:", {0: told(GO, 1, 1)})
            self.check_text(f"add ={name}\n{name}:", {0: told(ADD, 0, 63), 63: 1})
            self.check_text(f"{name}: place {name}+5\nword {name}+9", {5: 9})

    def test_what_is_no_name(self):
        for name in NO_NAMES:
            self.check_refused(f"{name}:", NoDeed, 1)
            self.check_refused(f"{name}: word 5", NoDeed, 1)
        for name in NO_NAMES:
            if name not in ("9", "0", "=a"):
                self.check_refused(f"add {name}", NoDeed, 1)
                self.check_refused(f"add ={name}", NoDeed, 1)
                self.check_refused(f"word 5+{name}", NoDeed, 1)

    def test_told_words_are_no_labels(self):
        self.assertEqual(len(TOLD_WORDS), 33)
        for name in TOLD_WORDS:
            self.check_refused(f"{name}:", NoDeed, 1)
            self.check_refused(f"word 5\n{name}: word 5", NoDeed, 2)

    def test_told_words_are_no_values_but_here(self):
        for name in TOLD_WORDS:
            if name != "here":
                for line in (f"word {name}", f"place {name}", f"add {name}", f"add ={name}", f"go far 5-{name}"):
                    self.check_refused(line, NoDeed, 1)

    def test_words_that_are_near_a_told_one_are_labels(self):
        for word in TOLD_WORDS:
            for name in (word[:-1], word + "1", word + "s"):
                if name not in TOLD_WORDS and len(name) <= 8:
                    self.check_text(f"word 7\n{name}: word {name}+here", {0: 7, 1: 2})


class DeedsTest(TextChecks, unittest.TestCase):
    def test_deeds_with_a_cell(self):
        for name, kind in DEEDS.items():
            for place in (0, 1, 8, 40, 62, 63):
                self.check_text(f"{name} {place}", {0: told(kind, 0, place)})
                self.check_text(f"{name} far {place}", {0: told(kind, 1, place)})

    def test_deeds_with_a_pool_word(self):
        for name, kind in DEEDS.items():
            self.check_text(f"{name} =700", {0: told(kind, 0, 63), 63: 700})
            self.check_text(f"{name} far =700", {0: told(kind, 1, 63), 63: 700})

    def test_asks(self):
        for place, name in enumerate(ASKS):
            self.check_text(f"ask {name}", {0: told(ASK, 0, place)})
        self.check_text("\n".join(f"ask {name}" for name in ASKS), {place: 768 + place for place in range(9)})

    def test_words(self):
        for number in (0, 1, 63, 64, 512, 1022, 1023):
            self.check_text(f"word {number}", {0: number})

    def test_changes_and_tests_with_every_choice_of_their_words(self):
        for name, far, bits in CHOICES:
            for place in range(64):
                chosen = [word for word, bit in bits.items() if place & bit]
                for row in (chosen, chosen[::-1], sorted(chosen), chosen[2:] + chosen[:2]):
                    self.check_text(" ".join([name] + row), {0: told(BITS, far, place)})

    def test_each_word_by_itself_and_none(self):
        for name, far, bits in CHOICES:
            self.check_text(name, {0: told(BITS, far, 0)})
            for word, bit in bits.items():
                self.check_text(f"{name} {word}", {0: told(BITS, far, bit)})
        self.assertEqual(assembled("change")[0], NOTHING)

    def test_one_word_twice(self):
        for name, far, bits in CHOICES:
            for word in bits:
                self.check_refused(f"{name} {word} {word}", NoDeed, 1)
                for other in bits:
                    if other != word:
                        self.check_refused(f"{name} {word} {other} {word}", NoDeed, 1)
            self.check_refused(" ".join([name] + list(bits) + list(bits)[:1]), NoDeed, 1)

    def test_each_deed_makes_one_cell(self):
        lines = ["word 1", "add 2", "add far 3", "go =4", "ask stop", "change", "test flat", "rise far =4", "word 9"]
        cells = {0: 1, 1: 130, 2: 195, 3: told(GO, 0, 63), 4: 775, 5: 896, 6: 961, 7: told(RISE, 1, 63), 8: 9, 63: 4}
        self.check_text("\n".join(lines), cells)


class ValuesTest(TextChecks, unittest.TestCase):
    def test_figures(self):
        for text in ("0", "7", "63", "00", "007", "0000", "0063", "010"):
            value = int(text)
            self.check_text(f"word {text}", {0: value})
            self.check_text(f"put {text}", {0: told(PUT, 0, value)})
            self.check_text(f"place {text}\nword 77", {value: 77})
            self.check_text(f"put ={text}", {0: told(PUT, 0, 63), 63: value})
        self.check_text("word 1023", {0: 1023})
        self.check_text("word 9999-9000", {0: 999})

    def test_five_figures(self):
        for text in ("00000", "00007", "10000", "12345", "99999", "000000000001"):
            for line in ("word {}", "put {}", "put far {}", "put ={}", "place {}", "word 5+{}", "word {}-{}"):
                self.check_refused(line.replace("{}", text), NoDeed, 1)

    def test_sums(self):
        for text, value in (
            ("1+2", 3), ("5-2", 3), ("1+2+3", 6), ("9-2-3", 4), ("9-2+3", 10), ("1-2+3", 2), ("0-5+5", 0),
            ("10-3+2-1", 8), ("1+1+1+1+1+1+1+1+1+1", 10), ("0001+0002", 3), ("9999-9998", 1), ("9-0", 9),
        ):
            self.check_text(f"word {text}", {0: value})
            self.check_text(f"call far {text}", {0: told(CALL, 1, value)})
            self.check_text(f"call ={text}", {0: told(CALL, 0, 63), 63: value})
            self.check_text(f"place {text}\nword 77", {value: 77})

    def test_names_and_here_in_sums(self):
        head = "word 901\nword 902\na: word 903\nb1: word 904\n"
        cells = {0: 901, 1: 902, 2: 903, 3: 904}
        sums = {"a": 2, "b1": 3, "a+b1": 5, "b1-a": 1, "here": 4, "here+here": 8, "here-a+1": 3}
        for text, value in sums.items():
            self.check_text(f"{head}word {text}", cells | {4: value})
            self.check_text(f"{head}and {text}", cells | {4: told(AND, 0, value)})
            self.check_text(f"{head}and far {text}", cells | {4: told(AND, 1, value)})
            self.check_text(f"{head}and ={text}", cells | {4: told(AND, 0, 63), 63: value})
            self.check_text(f"{head}place {text}+40\nword 77", cells | {value + 40: 77})

    def test_a_sign_ahead_two_in_a_row_and_one_at_the_end(self):
        for text in "+5 -5 +a -here 5+ 5- a+ here- 5++5 5--5 5+-5 5-+5 + - +- a+-1 +5+ a--here".split():
            for line in ("word {}", "add {}", "add far {}", "add ={}", "place {}"):
                self.check_refused(f"a: word 5\n{line.replace('{}', text)}", NoDeed, 2)

    def test_other_than_one_part(self):
        for text in ("5 + 6", "5+ 6", "5 +6", "a +1", "5\t+6", "5 6", "= 5", "=5 +6", "=\t5", "5 =6", "=5 =6"):
            for name in ("word", "add", "add far", "place"):
                self.check_refused(f"a: word 5\n{name} {text}", NoDeed, 2)

    def test_other_signs_in_a_value(self):
        for text in "5*6 5,6 (5) 5a 5here 0x5 1e1 a: 'a' 5.0 1_0 =5 ==5 5= 5=6 here: a+=5".split():
            self.check_refused(f"a: word 5\nadd ={text}", NoDeed, 2)
            self.check_refused(f"a: word 5\nword {text}", NoDeed, 2)

    def test_places_and_words_up_to_their_bounds(self):
        self.check_text("go 64-1", {0: told(GO, 0, 63)})
        self.check_text("go 5-5", {0: told(GO, 0, 0)})
        self.check_text("word 1024-1", {0: 1023})
        self.check_text("word 3-3", {0: 0})
        self.check_text("add =1024-1", {0: told(ADD, 0, 63), 63: 1023})
        self.check_text("place 64-1\nword 5", {63: 5})


class LabelsTest(TextChecks, unittest.TestCase):
    def test_told_behind_and_ahead(self):
        self.check_text("a: go b\nb: go a", {0: told(GO, 0, 1), 1: told(GO, 0, 0)})
        self.check_text("a: word 9\nb: word 8\nc:\nword a\nword b\nword c", {0: 9, 1: 8, 2: 0, 3: 1, 4: 2})
        self.check_text("word a\nword b+1\na:\nb: word 9", {0: 2, 1: 3, 2: 9})

    def test_several_labels_of_one_cell(self):
        self.check_text("word 9\na:\nb:\n\nc: word a+b+c\nd: word d", {0: 9, 1: 3, 2: 2})

    def test_a_label_by_itself_is_that_of_the_next_cell(self):
        self.check_text("word 9\na: ; here\n; a remark\n\nword a\nword a", {0: 9, 1: 1, 2: 1})

    def test_a_label_behind_the_last_cell(self):
        self.check_text("word a\nplace 63\nword 5\na:", {0: 64, 63: 5})
        self.check_text("word a-1\nplace 63\nword 5\na:\nb:\nc: ; all at 64", {0: 63, 63: 5})
        self.check_text("place 63\nword 5\na: place 3\nword a", {3: 64, 63: 5})
        self.check_text("place 63\nword 5\na: place a-60\nword here", {4: 4, 63: 5})

    def test_the_label_of_a_place_line_is_the_cell_ahead_of_the_move(self):
        self.check_text("word 9\na: place 10\nword a", {0: 9, 10: 1})
        self.check_text("word 9\na: place a+4\nword a", {0: 9, 5: 1})
        self.check_text("a: place a\nword a+7", {0: 7})
        self.check_text("place 20\na: place 0\nb: word a\nword b", {0: 20, 1: 0})

    def test_a_label_told_ahead_counts_places_that_moved(self):
        self.check_text("go end\nplace 30\nplace 7\nword 1\nend: word 2", {0: told(GO, 0, 8), 7: 1, 8: 2})


class HereTest(TextChecks, unittest.TestCase):
    def test_in_word_and_deeds(self):
        self.check_text("word here\nword here\nword here+1", {1: 1, 2: 3})
        cells = {9: told(GO, 0, 9), 10: told(GO, 1, 10), 11: told(ADD, 0, 10)}
        self.check_text("place 9\ngo here\ngo far here\nadd here-1", cells)

    def test_in_a_pool_word_it_is_the_cell_of_the_line(self):
        self.check_text("place 9\nadd =here", {9: told(ADD, 0, 63), 63: 9})
        self.check_text("place 9\nadd =here\nadd =here", {9: told(ADD, 0, 63), 10: told(ADD, 0, 62), 63: 9, 62: 10})

    def test_in_place(self):
        self.check_text("place here+5\nword 1\nplace here+5\nword 2", {5: 1, 11: 2})
        self.check_text("word 1\nplace here\nword 2", {0: 1, 1: 2})
        self.check_text("place 63\nword 1\nplace here-4\nword here", {60: 60, 63: 1})

    def test_it_is_that_of_the_next_cell_as_the_line_begins(self):
        self.check_text("place 5\na: place here+a\nword here", {10: 10})
        self.check_text("place 5\na: word here-a+100", {5: 100})


class PlaceTest(TextChecks, unittest.TestCase):
    def test_on_back_and_to_the_same_cell(self):
        text = "word 1\nplace 10\nword 2\nword 3\nplace 5\nword 4\nplace 6\nword 5"
        self.check_text(text, {0: 1, 10: 2, 11: 3, 5: 4, 6: 5})

    def test_it_makes_no_cell(self):
        self.check_text("place 5", {})
        self.check_text("place 63", {})
        self.check_text("place 0\nplace 0\nword 1", {0: 1})
        self.check_text("place 9\nplace 5\nplace 9\nword 1", {9: 1})

    def test_back_to_a_cell_that_was_made_and_on(self):
        self.check_text("word 1\nplace 0\na: place 1\nword a+3", {0: 1, 1: 3})

    def test_each_place(self):
        for place in range(64):
            self.check_text(f"place {place}\nword 1000", {place: 1000})


class PoolTest(TextChecks, unittest.TestCase):
    def test_where_pool_cells_lie(self):
        lines = "\n".join(f"add ={number}" for number in range(100, 110))
        cells = {number: told(ADD, 0, 63 - number) for number in range(10)}
        cells.update({63 - number: 100 + number for number in range(10)})
        self.check_text(lines, cells)

    def test_like_words_have_one_cell(self):
        self.check_text("add =5\nput =6\ngo =5\nand =6\nand =7", {
            0: told(ADD, 0, 63), 1: told(PUT, 0, 62), 2: told(GO, 0, 63), 3: told(AND, 0, 62), 4: told(AND, 0, 61),
            63: 5, 62: 6, 61: 7,
        })

    def test_like_words_by_unlike_writings(self):
        text = "add =5\nadd =05\nadd =0005\nadd =2+3\nadd =9-4\nadd far =here\na: add =a-1\nadd =a-here+6"
        cells = {place: told(ADD, 0, 63) for place in range(8)}
        cells[5] = told(ADD, 1, 63)
        self.check_text(text, cells | {63: 5})

    def test_with_far_and_without(self):
        self.check_text("add far =5\nadd =5", {0: told(ADD, 1, 63), 1: told(ADD, 0, 63), 63: 5})

    def test_the_word_0(self):
        cells = {0: told(ADD, 0, 63), 1: told(ADD, 0, 63), 2: told(ADD, 0, 62), 62: 1, 63: 0}
        self.check_text("add =0\nadd =3-3\nadd =1", cells)

    def test_a_cell_with_a_like_word_is_no_pool_cell(self):
        self.check_text("word 5\nadd =5\nplace 40\nword 5", {0: 5, 1: told(ADD, 0, 63), 40: 5, 63: 5})

    def test_a_pool_word_of_a_label_that_is_told_behind(self):
        self.check_text("add =a\nplace 9\na:", {0: told(ADD, 0, 63), 63: 9})

    def test_pool_cells_do_not_move_the_next_cell(self):
        self.check_text("add =500\nword here", {0: told(ADD, 0, 63), 1: 1, 63: 500})

    def test_as_many_as_there_is_room(self):
        text = "\n".join(f"add ={number}" for number in range(32))
        cells = {number: told(ADD, 0, 63 - number) for number in range(32)}
        cells.update({63 - number: number for number in range(32)})
        self.check_text(text, cells)

    def test_a_pool_cell_just_behind_the_cells(self):
        text = "\n".join(["word 7"] * 62 + ["add =9"])
        self.check_text(text, {place: 7 for place in range(62)} | {62: told(ADD, 0, 63), 63: 9})


class WholeTextTest(TextChecks, unittest.TestCase):
    def test_an_empty_text(self):
        self.check_text("", {})
        self.check_text("\n\n\n", {})

    def test_64_cells(self):
        self.check_text("\n".join(f"word {number}" for number in range(900, 964)), {n: 900 + n for n in range(64)})
        self.check_text("\n".join(["a:"] + ["go a"] * 64 + ["b:", "; none"]), {n: told(GO, 0, 0) for n in range(64)})

    def test_cells_that_are_not_made_are_0(self):
        self.check_text("place 31\nword 1", {31: 1})

    def test_a_new_list_each_time(self):
        first = assembled("word 5")
        first[0] = 6
        first.append(7)
        self.check_text("word 5", {0: 5})

    def test_texts_are_apart(self):
        self.check_text("a: add =5", {0: told(ADD, 0, 63), 63: 5})
        self.check_text("a: add =6", {0: told(ADD, 0, 63), 63: 6})

    def test_the_argument_bears_its_name(self):
        self.assertEqual(assembled(text="word 5"), [5] + [0] * 63)

    def test_a_long_text(self):
        self.check_text("\n".join(["; a remark", "", "  "] * 2000 + ["word 5"]), {0: 5})
        self.check_refused("\n".join([""] * 5000 + ["bogus"]), NoDeed, 5001)


if __name__ == "__main__":
    unittest.main()
