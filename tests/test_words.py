import unittest

from corehouse.words import parts, word


class WordsTest(unittest.TestCase):
    def test_parts_of_words_at_the_edges(self):
        told = {
            0: (0, 0, 0),
            1: (0, 0, 1),
            63: (0, 0, 63),
            64: (0, 1, 0),
            127: (0, 1, 63),
            128: (1, 0, 0),
            191: (1, 0, 63),
            192: (1, 1, 0),
            767: (5, 1, 63),
            768: (6, 0, 0),
            895: (6, 1, 63),
            896: (7, 0, 0),
            960: (7, 1, 0),
            1023: (7, 1, 63),
        }
        for number, three in told.items():
            self.assertEqual(parts(number), three)
            self.assertEqual(word(three[0], three[1], three[2]), number)

    def test_each_word_is_counted_through_by_kind_far_and_place(self):
        number = 0
        for kind in range(8):
            for far in range(2):
                for place in range(64):
                    self.assertEqual(word(kind, far, place), number)
                    self.assertEqual(parts(number), (kind, far, place))
                    number += 1
        self.assertEqual(number, 1024)

    def test_each_word_comes_back(self):
        for number in range(1024):
            kind, far, place = parts(number)
            self.assertEqual(word(kind, far, place), number)

    def test_arguments_bear_their_names(self):
        self.assertEqual(word(kind=5, far=1, place=9), 713)
        self.assertEqual(parts(word=713), (5, 1, 9))

    def test_kinds_of_answers(self):
        self.assertIs(type(word(7, 1, 63)), int)
        self.assertIs(type(parts(1023)), tuple)
        for number in range(1024):
            self.assertEqual([type(part) for part in parts(number)], [int, int, int])

    def test_numbers_somewhat_beyond_are_not_refused(self):
        self.assertEqual(word(8, 0, 0), 1024)
        self.assertEqual(parts(1024), (8, 0, 0))


if __name__ == "__main__":
    unittest.main()
