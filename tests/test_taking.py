"""Point 9, and point 2 of mouthrules/taking.py."""

import copy
import random
import unittest

from helping import A, B, MARK, OPEN, SHUT, all_marks, hands, marked, row, texts_of, told_or_word
from mouthrules import taking
from mouthrules.errors import Fault
from mouthrules.pieces import is_balanced
from mouthrules.taking import taken


def first_balanced(pieces):
    """The length of the shortest balanced row ahead, of one piece at least; None where there is none."""
    for many in range(1, len(pieces) + 1):
        if is_balanced(pieces[:many]):
            return many
    return None


def word_without(pieces):
    """Which fault it is that nothing more is found outside of groups."""
    shut = [at for at, piece in enumerate(pieces) if piece == SHUT and is_balanced(pieces[:at])]
    return "groups" if shut else "ends"


def taken_by_trying(marks, pieces):
    """What point 9 says, by trying every length of every hand."""
    told, at = [], 0
    places = [number for number, piece in enumerate(marks) if piece[0] == "hand"] + [len(marks)]
    for piece in marks[:places[0]]:
        if at == len(pieces):
            return "ends"
        if pieces[at] != piece:
            return "use"
        at += 1
    for place, following in zip(places, places[1:]):
        end = list(marks[place + 1:following])
        if not end:
            while pieces[at:at + 1] == [("blank", " ")]:
                at += 1
            many = first_balanced(pieces[at:])
            if many is None or pieces[at] == SHUT:
                return word_without(pieces[at:])
        else:
            fitting = [many for many in range(len(pieces) - at + 1)
                       if is_balanced(pieces[at:at + many]) and pieces[at + many:at + many + len(end)] == end]
            if not fitting:
                return word_without(pieces[at:])
            many = fitting[0]
        hand = pieces[at:at + many]
        if hand and hand[0] == OPEN and first_balanced(hand) == many:
            hand = hand[1:-1]
        told.append(hand)
        at += many + len(end)
    return told, at


class TakenTest(unittest.TestCase):
    def told(self, marks, text, *wanted):
        """Hands and, last, how many pieces were taken."""
        with self.subTest(marks=marks, text=text):
            self.assertEqual(taken(marked(marks), row(text)), (hands(*wanted[:-1]), wanted[-1]))

    def refused(self, word, marks, *texts):
        for text in texts:
            with self.subTest(word=word, marks=marks, text=text):
                with self.assertRaises(Fault) as caught:
                    taken(marked(marks), row(text))
                self.assertEqual(caught.exception.word, word)

    def test_marks_without_hands(self):
        self.told("", "", 0)
        self.told("", "}a", 0)
        self.told("a b", "a bc", 3)
        self.told("a", "a}", 1)
        self.refused("use", "ab", "ac", "b", "a}", "}", "{ab}", " ab", "a b", "#ab")
        self.refused("ends", "ab", "", "a")

    def test_pieces_ahead_of_the_first_hand(self):
        self.told("ab1", "abc", "c", 3)
        self.told("ab1c", "abc", "", 3)
        self.told(" 1", " a", "a", 2)
        self.refused("use", "ab1", "ba", "a}", "a{", "aa", "}", "acb")
        self.refused("use", "a1c", "}", "c", " a")
        self.refused("ends", "ab1", "", "a", "ab")
        self.refused("groups", "ab1", "ab}")

    def test_a_piece_that_must_stand_is_the_same_in_word_and_sign(self):
        for other in (("other", "a"), ("active", "a"), ("name", "a"), ("letter", "b"), ("mark", "a"), ("open", "a")):
            with self.subTest(other=other):
                self.assertEqual(told_or_word(taken, (A,), [other]), "use")
                self.assertEqual(told_or_word(taken, (("hand", 1), A), [other, SHUT]),
                                 "groups" if other[0] != "open" else "ends")
        self.assertEqual(taken((("name", "a b"), ("hand", 1)), [("name", "a b"), A]), ([[A]], 2))

    def test_bare_hands(self):
        self.told("1", "ab", "a", 1)
        self.told("12", "abc", "a", "b", 2)
        self.told("123456789", "abcdefghij", *"abcdefghi", 9)
        for piece in (("name", "ab"), ("active", "~"), MARK, ("other", "1"), ("hand", 3), ("letter", "}")):
            with self.subTest(piece=piece):
                self.assertEqual(taken(marked("1"), [piece, A]), ([[piece]], 1))

    def test_blanks_ahead_of_bare_hands(self):
        self.told("1", " a", "a", 2)
        self.told("1", "   ab", "a", 4)
        self.told("12", " a  b c", "a", "b", 5)
        self.told("1", " { a }b", " a ", 6)
        self.told("1", "a ", "a", 1)
        self.refused("ends", "1", "", " ", "   ")
        self.refused("ends", "12", "a", "a  ")

    def test_groups_by_bare_hands(self):
        self.told("1", "{}", "", 2)
        self.told("1", "{abc}d", "abc", 5)
        self.told("1", "{{ab}}", "{ab}", 6)
        self.told("1", "{a{b}{c}}d", "a{b}{c}", 9)
        self.told("12", "{a}{b}", "a", "b", 6)
        self.told("12", "{a} b", "a", "b", 5)
        self.refused("groups", "1", "}", "}a", " }", "  }}")
        self.refused("groups", "12", "a}", "{a} }", "a }")
        self.refused("ends", "1", "{", "{a", "{{a}", " {", "{a{}")

    def test_hands_with_ends(self):
        self.told("1.", "abc.d", "abc", 4)
        self.told("1.", ".", "", 1)
        self.told("1.", " a .", " a ", 4)
        self.told("1.2;", "a.b;", "a", "b", 4)
        self.told("1.2", "ab.c", "ab", "c", 4)
        self.told("12.", "abc.", "a", "bc", 4)
        self.told("1 2", "ab c", "ab", "c", 4)
        self.told("a1b2c", "aaabbbcc", "aa", "bb", 7)
        self.told("1ab", "aab", "a", 3)
        self.refused("ends", "1.", "", "a", "ab ", "{.}", "{")
        self.refused("ends", "1.2", "a.", "a. ")

    def test_ends_that_stand_within_groups(self):
        self.told("1.", "{.}.", ".", 4)
        self.told("1.", "a{.}b.", "a{.}b", 6)
        self.told("1.", "{.{.}.}{.}.", "{.{.}.}{.}", 11)
        self.told("1ab", "{ab}ab", "ab", 6)
        self.told("1ab", "a{b}ab", "a{b}", 6)
        self.told("1ab", "a{}bab", "a{}b", 6)
        self.told("1ab", "{a}bab", "{a}b", 6)
        self.refused("ends", "1ab", "a{b}", "{a}b", "a{}b", "{ab}", "{ab}a")

    def test_groups_are_handed_without_theirs_where_the_hand_is_just_one(self):
        self.told("1.", "{a}.", "a", 4)
        self.told("1.", "{}.", "", 3)
        self.told("1.", "{{a}}.", "{a}", 6)
        self.told("1.", "{a}{b}.", "{a}{b}", 7)
        self.told("1.", "{}{}.", "{}{}", 5)
        self.told("1.", " {a}.", " {a}", 5)
        self.told("1.", "{a} .", "{a} ", 5)
        self.told("1.", "b{a}.", "b{a}", 5)
        self.told("1.", "{{a}{b}}.", "{a}{b}", 9)

    def test_ends_that_begin_like_themselves(self):
        self.told("1aab", "aaab", "a", 4)
        self.told("1aab", "aaaaabb", "aaa", 6)
        self.told("1aba", "ababa", "", 3)
        self.told("1abac", "ababac", "ab", 6)
        self.told("1aa", "aaa", "", 2)
        self.told("1abab", "aabbabab", "aabb", 8)
        self.told("1aab2", "aa{}aabc", "aa{}", "c", 8)
        self.refused("ends", "1aab", "aaaa", "aa{}b", "aba")
        self.refused("groups", "1aab", "aa}b", "aaaa}")

    def test_shut_ones_outside_of_groups(self):
        self.refused("groups", "1.", "}", "}.", "a}.", "{}}.", "a{b}c}")
        self.refused("groups", "1ab", "a}b", "a}ab")
        self.refused("groups", "1.2", "a.}", "a. }")
        self.refused("groups", "1.2;", "a.b}", "a.}")
        self.told("1.", ".}", "", 1)
        self.told("1", "a}", "a", 1)

    def test_whichever_comes_first_along_the_row(self):
        self.refused("groups", "1.", "}{")
        self.refused("ends", "1.", "{a.}", "{{}")
        self.refused("use", "a1.", "}a", "b}")
        self.refused("groups", "a1.", "a}")

    def test_hands_of_many_pieces(self):
        text = "{" * 1000 + "." + "}" * 1000 + "a" * 990 + "."
        told = taken(marked("1."), row(text))
        self.assertEqual(told, ([row(text[:-1])], len(text)))
        self.assertEqual(taken(marked("1" + "a" * 29), row("a" * 28 + "b" + "a" * 40)), ([row("a" * 28 + "b")], 58))


class ByTryingTest(unittest.TestCase):
    def same(self, marks, pieces):
        one, other = told_or_word(taken, marks, pieces), taken_by_trying(marks, pieces)
        if one != other:
            self.fail((marks, pieces, one, other))
        return one if isinstance(one, str) else "told"

    def test_every_short_row_by_every_short_marks(self):
        words = set()
        rows = [row(text) for text in texts_of("ab {}", 4)]
        for marks in all_marks("ab ", 3):
            for pieces in rows:
                words.add(self.same(marks, pieces))
        self.assertEqual(words, {"told", "use", "groups", "ends"})

    def test_longer_ones(self):
        chance = random.Random(9)
        for _ in range(4000):
            number = iter("123456789")
            text = "".join(chance.choice("aab1") for _ in range(chance.randint(1, 9)))
            marks = marked("".join(next(number) if sign == "1" else sign for sign in text))
            pieces = row("".join(chance.choice("aaaaabbbb {}"[:chance.randint(5, 12)])
                                 for _ in range(chance.randint(5, 40))))
            self.same(marks, pieces)


class HandedInTest(unittest.TestCase):
    def test_nothing_handed_in_is_changed(self):
        for marks, text in [("1.2", "{a}{b}.{c}d"), ("ab", "ac"), ("1", "}"), ("1.", "{a}."), ("1", " "), ("", "a")]:
            with self.subTest(marks=marks, text=text):
                told, pieces = marked(marks), row(text)
                kept = copy.deepcopy(told)
                one = told_or_word(taken, told, pieces)
                self.assertEqual((told, pieces), (kept, row(text)))
                self.assertEqual(told_or_word(taken, told, pieces), one)

    def test_what_is_told_is_new(self):
        pieces = row("ab.")
        told = taken(marks=marked("1."), row=pieces)
        pieces.clear()
        self.assertEqual(told, ([[A, B]], 3))
        self.assertIsInstance(told, tuple)
        pieces = row("a")
        (hand,), many = taken(marked("1"), pieces)
        hand.append(B)
        self.assertEqual(pieces, row("a"))
        self.assertEqual(taken(marked("1"), pieces), ([[A]], 1))

    def test_each_hand_is_a_list_of_its_own(self):
        given, many = taken(marked("1.2"), row(".{}"))
        given[0].append(A)
        self.assertEqual(given, [[A], []])


class PlaceTest(unittest.TestCase):
    def test_all_is_defined_in_this_file(self):
        self.assertEqual(taken.__module__, taking.__name__)


if __name__ == "__main__":
    unittest.main()
