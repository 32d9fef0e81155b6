"""Points 10 and 3 (e), and point 2 of mouthrules/falls.py."""

import copy
import enum
import random
import unittest

from helping import A, B, OPEN, SHUT, all_marks, hands, marked, odd_things, row, texts_of, told_or_word
from mouthrules import falls
from mouthrules.errors import Fault
from mouthrules.falls import ends_in, falls_of, is_falls, parting, taken_by_falls
from mouthrules.pieces import is_row
from mouthrules.taking import taken


def falls_by_trying(end):
    """What point 10 says, by trying every number at every place."""
    told = []
    for place in range(len(end)):
        read = end[:place + 1]
        told.append(max(many for many in range(place + 1) if read[:many] == read[len(read) - many:]))
    return told


def tables_of(marks):
    return [falls_of(end) for end in ends_in(marks)]


class FallsOfTest(unittest.TestCase):
    def test_tables(self):
        for text, wanted in [("a", [0]), ("aba", [0, 0, 1]), ("ab", [0, 0]), ("aa", [0, 1]), ("aaaa", [0, 1, 2, 3]),
                             ("abab", [0, 0, 1, 2]), ("aab", [0, 1, 0]), ("aabaaa", [0, 1, 0, 1, 2, 2]),
                             ("abacabab", [0, 0, 1, 0, 1, 2, 3, 2]), ("aabaabaaa", [0, 1, 0, 1, 2, 3, 4, 5, 2]),
                             ("a a", [0, 0, 1]), ("  ", [0, 1]), ("a" * 29, list(range(29)))]:
            with self.subTest(text=text):
                self.assertEqual(falls_of(marked(text)), wanted)

    def test_pieces_go_by_word_and_sign(self):
        self.assertEqual(falls_of((("letter", "a"), ("active", "a"), ("letter", "a"), ("other", "a"))), [0, 0, 1, 0])
        self.assertEqual(falls_of((("name", "a"), ("name", "ab"), ("name", "a"), ("name", "ab"))), [0, 0, 1, 2])

    def test_every_short_end(self):
        for text in texts_of("ab", 9):
            if text:
                self.assertEqual(falls_of(marked(text)), falls_by_trying(text), text)
        for text in texts_of("ab ", 6):
            if text:
                self.assertEqual(falls_of(marked(text)), falls_by_trying(text), text)

    def test_what_is_told_is_new(self):
        end = marked("aba")
        told = falls_of(end=end)
        told[0] = 9
        self.assertEqual(falls_of(end), [0, 0, 1])
        self.assertIsInstance(told, list)
        self.assertEqual(end, marked("aba"))


class IsFallsTest(unittest.TestCase):
    def test_the_table_alone(self):
        for text in ("a", "ab", "aba", "aaaa", "abacabab", "aabaabaaa"):
            end, table = marked(text), falls_of(marked(text))
            self.assertIs(is_falls(end, table), True)
            self.assertIs(is_falls(end, thing=list(table)), True)
            self.assertIs(is_falls(end=end, thing=tuple(table)), False)
            self.assertIs(is_falls(end, [*table, 0]), False)
            self.assertIs(is_falls(end, table[:-1]), False)
            for place, number in enumerate(table):
                for other in (number + 1, number - 1, -1, 10 ** 60, None, str(number), float(number), [number],
                              (number,), bool(number)):
                    with self.subTest(text=text, place=place, other=other):
                        self.assertIs(is_falls(end, [*table[:place], other, *table[place + 1:]]), False)

    def test_truths_are_no_numbers(self):
        self.assertIs(is_falls(marked("aa"), [0, 1]), True)
        for thing in ([False, 1], [0, True], [False, True]):
            self.assertIs(is_falls(marked("aa"), thing), False)
        self.assertIs(is_falls(marked("a"), [False]), False)
        self.assertIs(is_falls(marked("aa"), [0, 1.0]), False)

    def test_anything(self):
        for thing in odd_things() + [None, 0, 1, [], [[0]], [None], {0: 0}, "0", range(1), (0,), [0, [0]]]:
            with self.subTest(kind=thing.__class__):
                self.assertIs(is_falls(marked("a"), thing), False)
                self.assertIs(is_falls(marked("aba"), [0, 0, thing]), thing == 1 and thing.__class__ == int)

    def test_whole_numbers_of_other_classes_are_whole_numbers(self):
        number = enum.IntEnum("number", "one two")
        self.assertIs(is_falls(marked("aa"), [0, number.one]), True)
        self.assertIs(is_falls(marked("aa"), [0, number.two]), False)

    def test_nothing_handed_in_is_changed(self):
        thing = [0, ["a"], True]
        is_falls(marked("aba"), thing)
        self.assertEqual(thing, [0, ["a"], True])


class EndsInTest(unittest.TestCase):
    def test_ends(self):
        for marks, wanted in [("", []), ("ab", []), ("1", []), ("12", []), ("a12", []), ("1a", ["a"]), ("1ab", ["ab"]),
                              ("a1b2c", ["b", "c"]), ("12a", ["a"]), ("1a2", ["a"]), ("a12b3 c4", ["b", " c"]),
                              ("1 2", [" "]), ("1a2a3a", ["a", "a", "a"]), ("123456789a", ["a"])]:
            with self.subTest(marks=marks):
                self.assertEqual(ends_in(marked(marks)), [marked(end) for end in wanted])
        self.assertEqual(ends_in(marks=marked("1" + "a" * 29)), [marked("a" * 29)])

    def test_what_is_told_is_new(self):
        marks = marked("1a2b")
        told = ends_in(marks)
        told.clear()
        self.assertEqual(ends_in(marks), [(A,), (B,)])
        self.assertIsInstance(ends_in(marks)[0], tuple)


class TakenByFallsTest(unittest.TestCase):
    def same(self, marks, pieces):
        tables = tables_of(marks)
        one, other = told_or_word(taken, marks, pieces), told_or_word(taken_by_falls, marks, tables, pieces)
        if one != other:
            self.fail((marks, pieces, one, other))
        return one if isinstance(one, str) else "told"

    def test_what_is_told(self):
        for marks, text, wanted, many in [("", "}", [], 0), ("a1.2", "ab.c", ["b", "c"], 4), ("1aab", "aaab", ["a"], 4),
                                          ("1aba", "abcababa", ["abc"], 6), ("1.", "{a}.", ["a"], 4),
                                          ("1ab", "a{}bab", ["a{}b"], 6), ("12", " a {b}", ["a", "b"], 6),
                                          ("1.2", ".{}", ["", ""], 3), ("1abac", "ababac", ["ab"], 6),
                                          ("12a3b", "xya{b}{}b", ["x", "y", "{b}{}"], 9)]:
            with self.subTest(marks=marks, text=text):
                told = taken_by_falls(marked(marks), tables_of(marked(marks)), row(text))
                self.assertEqual(told, (hands(*wanted), many))

    def test_what_is_refused(self):
        for word, marks, text in [("use", "ab", "ac"), ("use", "a1.", "}"), ("use", "a", "{"), ("groups", "1", " }"),
                                  ("groups", "1ab", "a}b"), ("groups", "1.", "{}}."), ("ends", "1ab", "a{}b"),
                                  ("ends", "1", "{a"), ("ends", "1aab", "aaaa"), ("ends", "ab", "a"), ("ends", "1.", "{.")]:
            with self.subTest(word=word, marks=marks, text=text):
                with self.assertRaises(Fault) as caught:
                    taken_by_falls(marked(marks), tables_of(marked(marks)), row(text))
                self.assertEqual(caught.exception.word, word)

    def test_every_short_row_by_every_short_marks(self):
        words = set()
        rows = [row(text) for text in texts_of("ab {}", 4)]
        for marks in all_marks("ab ", 3):
            for pieces in rows:
                words.add(self.same(marks, pieces))
        self.assertEqual(words, {"told", "use", "groups", "ends"})

    def test_every_row_by_ends_that_begin_like_themselves(self):
        rows = [row(text) for text in texts_of("ab", 9)]
        for text in ("1aab", "1aba", "1abab", "1aaa", "1aabaa", "1a2aa", "1aba2aba"):
            for pieces in rows:
                self.same(marked(text), pieces)

    def test_longer_ones(self):
        chance = random.Random(10)
        for _ in range(4000):
            number = iter("123456789")
            text = "".join(chance.choice("aaab1") for _ in range(chance.randint(1, 12)))
            marks = marked("".join(next(number) if sign == "1" else sign for sign in text[:9]) + text[9:].replace("1", "b"))
            signs = "aaaaabbbb {}"[:chance.randint(5, 12)]
            self.same(marks, row("".join(chance.choice(signs) for _ in range(chance.randint(5, 60)))))

    def test_nothing_handed_in_is_changed(self):
        for marks, text in [("1.2", "{a}{b}.{c}d"), ("ab", "ac"), ("1aba", "abab"), ("1.", "}")]:
            with self.subTest(marks=marks, text=text):
                told, pieces = marked(marks), row(text)
                tables = tables_of(told)
                kept = copy.deepcopy(tables)
                told_or_word(taken_by_falls, told, tables, pieces)
                self.assertEqual((told, tables, pieces), (marked(marks), kept, row(text)))

    def test_what_is_told_is_new_and_arguments_go_by_names(self):
        pieces = row("a.")
        told = taken_by_falls(marks=marked("1."), tables=[[0]], row=pieces)
        pieces.clear()
        self.assertEqual(told, ([[A]], 2))
        self.assertIsInstance(told, tuple)


class PartingTest(unittest.TestCase):
    def parted(self, one, other):
        told = parting(one, other)
        if one == other:
            self.assertIsNone(told)
            return
        if not is_row(told) or any(piece[0] == "hand" for piece in told):
            self.fail((one, other, told))
        if told_or_word(taken, one, told) == told_or_word(taken, other, told):
            self.fail((one, other, told))

    def both_ways(self, one, other):
        with self.subTest(one=one, other=other):
            self.parted(marked(one), marked(other))
            self.parted(marked(other), marked(one))

    def test_none_where_both_are_the_same(self):
        for text in ("", "a", "1", "12", "a1b2 c", "123456789", "1" + "a" * 29):
            self.assertIsNone(parting(marked(text), marked(text)))
        self.assertIsNone(parting(one=(), other=()))

    def test_marks_without_pieces(self):
        for text in ("a", "1", " ", "12", "1a", "a1"):
            self.both_ways("", text)

    def test_blanks_ahead_of_hands(self):
        for one, other in [("1", " 1"), (" 1", "  1"), ("1", "1 "), ("12", "1 2"), ("1 2", "1  2"), ("1 ", "12"),
                           ("a1", "a 1"), ("12", "12 "), ("1 2", "12 "), (" ", "1"), (" 1", "1 ")]:
            self.both_ways(one, other)

    def test_a_hand_more_and_a_piece_more(self):
        for one, other in [("1", "12"), ("12345678", "123456789"), ("1a2", "1a"), ("1a2", "1a23"), ("a", "a1"),
                           ("a", "ab"), ("1a", "1ab"), ("1", "1a"), ("1a2b", "1a2bc"), ("1a2b3c", "1ab2b3c"),
                           ("12a3", "12ab3"), ("1a2", "12a"), ("1" + "a" * 28, "1" + "a" * 29),
                           ("12345678a", "123456789"), ("a", "b"), ("a1", "b1"), ("1a", "1b"), ("1a2", "1b2")]:
            self.both_ways(one, other)

    def test_ends_that_begin_like_themselves(self):
        for one, other in [("1aab", "1aaab"), ("1aba", "1ababa"), ("1ab", "1abab"), ("1a", "1aa"), ("1aa", "1aaa"),
                           ("1aab2", "1aab2b"), ("1ab2", "1abab2"), ("1aa2a", "1a2aa"), ("1a2a", "1aa2"), ("1ab", "1ba"),
                           ("1aab2aab", "1aab2aaab"), ("1aaab", "1aaba")]:
            self.both_ways(one, other)

    def test_pieces_of_the_same_sign_and_another_word(self):
        for word in ("other", "active", "name"):
            for ahead in ((), (("hand", 1),)):
                self.parted((*ahead, A), (*ahead, (word, "a")))
                self.parted((*ahead, (word, "a")), (*ahead, A))
        self.parted((("name", "a"),), (("name", "ab"),))

    def test_every_two_of_short_marks(self):
        short = all_marks("ab", 4)
        for one in short:
            for other in short:
                self.parted(one, other)
        short = all_marks("a ", 4)
        for one in short:
            for other in short:
                self.parted(one, other)

    def test_two_that_part_late(self):
        chance = random.Random(11)
        for _ in range(3000):
            texts = []
            ahead = "".join(chance.choice("aab 1") for _ in range(chance.randint(0, 8)))
            for _ in range(2):
                number = iter("123456789")
                text = ahead + "".join(chance.choice("aab 1") for _ in range(chance.randint(0, 4)))
                text = text.replace("1", "b", max(0, text.count("1") - 9))
                texts.append(marked("".join(next(number) if sign == "1" else sign for sign in text)))
            self.parted(*texts)

    def test_what_is_told_is_new_and_what_is_handed_in_stays(self):
        one, other = marked("a1b"), marked("a1c")
        told = parting(one, other)
        told.extend([OPEN, SHUT])
        again = parting(one, other)
        self.assertEqual(told, [*again, OPEN, SHUT])
        self.assertEqual((one, other), (marked("a1b"), marked("a1c")))


class PlaceTest(unittest.TestCase):
    def test_all_is_defined_in_this_file(self):
        for told in (falls_of, is_falls, taken_by_falls, ends_in, parting):
            self.assertEqual(told.__module__, falls.__name__)


if __name__ == "__main__":
    unittest.main()
