"""Point 8, and point 2 of mouthrules/rules.py."""

import collections
import copy
import unittest

from helping import A, B, BLANK, MARK, OPEN, SHUT, hands, marked, odd_things, row, texts_of, told_or_word
from mouthrules import rules
from mouthrules.errors import Fault
from mouthrules.rules import filled, is_rule, rule_in


def row_of_rule(rule):
    """The row from which a rule is read."""
    told = []
    for part, around in zip(rule, ((), (OPEN, SHUT))):
        told.extend(around[:1])
        for piece in part:
            if piece[0] == "hand":
                told.extend([MARK, ("other", str(piece[1]))])
            else:
                told.extend([MARK, piece] if piece[0] == "mark" else [piece])
        told.extend(around[1:])
    return told


RULES = [(marked(marks), marked(body)) for marks, body in [
    ("", ""), ("a", "b"), ("", "{}"), ("1", "1"), ("1", ""), ("12", "21"), ("a1b2c", "22{1{}1}2"),
    (" 1 ", " 1 "), ("~1~", "~"), (".1,", "-1+"), ("123456789", "987654321"), ("123456789", "999"),
    ("a" * 30, ""), ("a" * 21 + "123456789", "9"), ("123456789" + "a" * 21, "9"), ("1", "#1##"), ("", "#"),
    ("", "{{}{{}}}"), ("", "a" * 3000), ("1", "1" * 500), ("0", "0")]]
RULES.append(((("name", "a name"), ("hand", 1), ("name", "#")), (("name", "{"), ("hand", 1), ("active", "}"))))
RULES.append(((("other", "1"), ("other", "{"), ("letter", "}")), (("letter", "}"), ("other", "#"))))


class IsRuleTest(unittest.TestCase):
    def test_rules(self):
        for rule in RULES:
            with self.subTest(rule=rule):
                self.assertIs(is_rule(rule), True)

    def test_marks_that_are_none(self):
        for marks in ["2", "21", "11", "13", "1a1", "1a3", "a2", "123456798", "124", "{", "}", "{}", "a{", "1{}", "#",
                      "1#", "#1", "##", "a" * 31, "a" * 22 + "123456789", "123456789" + "a" * 22]:
            with self.subTest(marks=marks):
                self.assertIs(is_rule((marked(marks), ())), False)
        for marks in [row("a"), None, "", "a", A, (A, ()), ((A,),), (("letter", "ab"),), (["letter", "a"],), {A: A},
                      (("hand", True),), (("hand", 1), ("hand", 2.0)), (("hand", 0),), (("hand", 1.0),), (None,),
                      tuple(("hand", number) for number in range(1, 11)), (("blank", "\t"),), ("a",), frozenset((A,)),
                      (("name", ""),), (("name", "a" * 31),), 1, []]:
            with self.subTest(marks=marks):
                self.assertIs(is_rule((marks, ())), False)

    def test_bodies_that_are_none(self):
        for marks, body in [("", "1"), ("1", "2"), ("1", "12"), ("12", "3"), ("", "{1}"), ("12345678", "9"), ("", "{"),
                            ("", "}"), ("", "}{"), ("", "{}}"), ("", "{{}"), ("1", "{1"), ("", "{}}{")]:
            with self.subTest(marks=marks, body=body):
                self.assertIs(is_rule((marked(marks), marked(body))), False)
        for body in [row("a"), None, "", "a", A, (A, ()), ((A,),), (("letter", "ab"),), (["letter", "a"],), {A: A},
                     (("hand", True),), (("hand", 0),), (("hand", 1.0),), (None,), (OPEN, "}"), {}, [], 0,
                     (("hand", False),), (("hand", 10),), (("hand", -1),)]:
            with self.subTest(body=body):
                self.assertIs(is_rule((marked("123456789"), body)), False)

    def test_forms_that_are_none(self):
        for thing in odd_things() + [None, 0, 1, [(), ()], ((),), ((), (), ()), ("rule", (), ()), {(): ()}, ((), [])]:
            with self.subTest(kind=thing.__class__):
                self.assertIs(is_rule(thing), False)
                self.assertIs(is_rule((thing, ())), thing == ())
                self.assertIs(is_rule(((), thing)), thing == ())
                self.assertIs(is_rule(((thing,), ())), False)
                self.assertIs(is_rule(((), (thing,))), False)
                self.assertIs(is_rule(((), (("hand", thing),))), False)

    def test_tuples_of_other_classes_are_tuples(self):
        pair = collections.namedtuple("pair", "marks body")
        self.assertIs(is_rule(pair((), ())), True)
        self.assertIs(is_rule(thing=pair((), (OPEN,))), False)

    def test_nothing_handed_in_is_changed(self):
        thing = ([A, B], [("hand", 1)])
        kept = copy.deepcopy(thing)
        self.assertIs(is_rule(thing), False)
        self.assertEqual(thing, kept)


class RuleInTest(unittest.TestCase):
    def told(self, text, marks, body, many):
        with self.subTest(text=text):
            self.assertEqual(rule_in(row(text)), ((marked(marks), marked(body)), many))

    def test_rules_and_how_many_pieces_they_took(self):
        self.told("{}", "", "", 2)
        self.told("a{b}", "a", "b", 4)
        self.told("#1{#1}", "1", "1", 6)
        self.told("#1{}", "1", "", 4)
        self.told("#1a#2{#2#1#2}", "1a2", "212", 13)
        self.told(" #1 { #1 }", " 1 ", " 1 ", 10)
        self.told("#1.#2,{-#1}", "1.2,", "-1", 11)
        self.told("~#1~{~}", "~1~", "~", 7)

    def test_what_stands_behind_is_left(self):
        for behind in ("", "a", "}", "}}", "{", "#", "#1", "##", " {a}", "}{"):
            self.told("a#1{b#1}" + behind, "a1", "b1", 8)
            self.told("{}" + behind, "", "", 2)

    def test_groups_within_the_body(self):
        self.told("{{}}", "", "{}", 4)
        self.told("{{a}{b{c}}}d}", "", "{a}{b{c}}", 11)
        self.told("#1{{#1}{{#1}#1}}", "1", "{1}{{1}1}", 16)

    def test_two_marks_are_the_second_one(self):
        self.told("{##}", "", "#", 4)
        self.told("{####}", "", "##", 6)
        self.told("#1{###1##a}", "1", "#1#a", 11)
        self.assertEqual(rule_in([OPEN, MARK, ("mark", "@"), SHUT]), (((), (("mark", "@"),)), 4))
        self.assertEqual(rule_in([OPEN, ("mark", "@"), MARK, SHUT]), (((), (MARK,)), 4))
        told = rule_in(row("#1{##") + [("other", "1"), SHUT])
        self.assertEqual(told, (((("hand", 1),), (MARK, ("other", "1"))), 7))

    def test_a_pair_of_marks_has_no_part_in_the_next_one(self):
        self.assertEqual(told_or_word(rule_in, row("#1{###1}")), (((("hand", 1),), (MARK, ("hand", 1))), 8))
        self.assertEqual(told_or_word(rule_in, row("{###}")), "marks")

    def test_nine_hands(self):
        text = "".join("#" + figure for figure in "123456789")
        self.told(text + "{#9#1}", "123456789", "91", 24)
        self.assertEqual(told_or_word(rule_in, row(text + "#")), "ends")
        for behind in ("1", "0", "9", "a", "{", "}", "#"):
            with self.subTest(behind=behind):
                self.assertEqual(told_or_word(rule_in, row(text + "#" + behind)), "marks")
                self.assertEqual(told_or_word(rule_in, row(text + "#" + behind + "0{}")), "marks")

    def test_figures_without_a_mark_are_no_hands(self):
        told = rule_in(row("1{2}"))
        self.assertEqual(told, (((("other", "1"),), (("other", "2"),)), 4))
        self.assertEqual(rule_in(row("11#11{#11}"))[0][0], (("other", "1"), ("other", "1"), ("hand", 1), ("other", "1")))

    def test_pieces_go_by_their_words_not_their_signs(self):
        marks = [("mark", "a"), ("other", "1"), ("letter", "{"), ("other", "}"), ("letter", "#"), ("open", "b")]
        body = [("other", "{"), ("active", "}"), ("mark", "c"), ("other", "1"), ("name", "#"), ("shut", "d")]
        self.assertEqual(rule_in(marks + body), (
            ((("hand", 1), ("letter", "{"), ("other", "}"), ("letter", "#")),
             (("other", "{"), ("active", "}"), ("hand", 1), ("name", "#"))), 12))

    def test_every_rule_is_read_from_its_row(self):
        for rule in RULES:
            pieces = row_of_rule(rule)
            for behind in ([], [SHUT], [OPEN, A], [MARK]):
                with self.subTest(rule=rule, behind=behind):
                    self.assertEqual(rule_in(pieces + behind), (rule, len(pieces)))

    def test_every_short_row(self):
        words = dict.fromkeys(("told", "marks", "groups", "ends"), 0)
        for text in texts_of("a#12{}", 6):
            told = told_or_word(rule_in, row(text))
            if isinstance(told, str):
                words[told] += 1
                if text and told != "ends":
                    # What goes wrong first stays so whatever stands behind, and is at the last piece or ahead.
                    ahead = told_or_word(rule_in, row(text[:-1]))
                    self.assertTrue(ahead in (told, "ends"), text)
                continue
            words["told"] += 1
            rule, many = told
            self.assertTrue(is_rule(rule), text)
            self.assertEqual(row_of_rule(rule), row(text)[:many], text)
        self.assertTrue(all(words.values()), words)


class RefusedRuleTest(unittest.TestCase):
    def refused(self, word, *texts):
        for text in texts:
            with self.subTest(word=word, text=text):
                with self.assertRaises(Fault) as caught:
                    rule_in(row(text))
                self.assertEqual(caught.exception.word, word)

    def test_a_mark_with_another_thing_behind_it(self):
        self.refused("marks", "#a{}", "#{}", "#}", "##{}", "# 1{}", "#~{}", "#2{}", "#0{}", "#1#1{}", "#1#3{}", "a#}",
                     "#1#2#2{}", "#.{}", "a#1##2{}")
        self.refused("marks", "{#a}", "{#{}}", "{#}", "{#}}", "{# }", "{#1}", "{#0}", "#1{#2}", "#1{#0}", "#1{#a}",
                     "#1#2{#3}", "#1{{#2}}", "{###}", "{#~}", "{a{#}}", "#1{#1#2}")
        for behind in (("letter", "1"), ("name", "1"), ("active", "1"), ("open", "1"), ("shut", "1")):
            with self.subTest(behind=behind):
                self.assertEqual(told_or_word(rule_in, [MARK, behind, OPEN, SHUT]), "marks")
                self.assertEqual(told_or_word(rule_in, [MARK, ("other", "1"), OPEN, MARK, behind, SHUT]), "marks")
        self.assertEqual(told_or_word(rule_in, [MARK, ("mark", "1"), OPEN, SHUT]), "marks")
        self.assertEqual(told_or_word(rule_in, [OPEN, MARK, ("other", "#"), SHUT]), "marks")

    def test_a_shut_one_among_marks(self):
        self.refused("groups", "}", "a}", "#1}{}", "a#1b}", " }", "}{", "}#", "a" * 30 + "}")

    def test_rows_that_are_over(self):
        self.refused("ends", "", "a", "#", "#1", "a#", "#1#", "a" * 30, "{", "a{", "{a", "{{}", "{{a}", "{#", "#1{#",
                     "#1{#1", "{##", "{a{b}", " ", "{{{}}")

    def test_the_31st_piece_of_marks(self):
        self.refused("marks", "a" * 31, "a" * 31 + "{}", "a" * 31 + "}", "a" * 30 + " ", "a" * 30 + "#1", "a" * 30 + "#2",
                     "a" * 30 + "#a", "a" * 30 + "#{", "a" * 30 + "#}", "a" * 30 + "##", "a" * 30 + "#1{}",
                     "#1" + "a" * 30, "#1#2" + "a" * 29)
        self.refused("ends", "a" * 30, "a" * 30 + "#", "#1" + "a" * 29, "#1" + "a" * 29 + "#", "a" * 30 + "{")
        self.refused("groups", "a" * 30 + "}", "#1" + "a" * 29 + "}")
        self.assertEqual(rule_in(row("a" * 29 + "#1{}")), ((marked("a" * 29 + "1"), ()), 33))
        self.assertEqual(rule_in(row("#1" + "a" * 29 + "{}")), ((marked("1" + "a" * 29), ()), 33))
        self.assertEqual(rule_in(row("{" + "a" * 100 + "}")), (((), marked("a" * 100)), 102))

    def test_whichever_comes_first_along_the_row(self):
        self.refused("marks", "#a}", "#a", "##}", "{#a", "#2{#", "#1{#2")
        self.refused("groups", "}#a", "}", "a}#a{#")
        self.refused("marks", "#}}", "{#}", "{{#}")

    def test_nothing_handed_in_is_changed(self):
        for text in ("#1a{#1{##}}b", "#a", "a}", "{#1", ""):
            with self.subTest(text=text):
                pieces = row(text)
                one = told_or_word(rule_in, pieces)
                self.assertEqual(pieces, row(text))
                self.assertEqual(told_or_word(rule_in, pieces), one)

    def test_what_was_told_stays_whatever_becomes_of_the_row(self):
        pieces = row("a{b}")
        told = rule_in(row=pieces)
        pieces.clear()
        self.assertEqual(told, ((marked("a"), marked("b")), 4))
        self.assertIs(is_rule(told[0]), True)
        self.assertIsInstance(told, tuple)


class FilledTest(unittest.TestCase):
    def test_bodies_without_hands(self):
        self.assertEqual(filled((), []), [])
        self.assertEqual(filled(marked("a{b} #~"), []), row("a{b} #~"))
        self.assertEqual(filled(marked("a"), hands("b", "c")), row("a"))

    def test_each_hand_in_its_place(self):
        self.assertEqual(filled(marked("1"), hands("ab")), row("ab"))
        self.assertEqual(filled(marked("x1y2z"), hands("ab", "cd")), row("xabycdz"))
        self.assertEqual(filled(marked("21"), hands("ab", "cd")), row("cdab"))
        self.assertEqual(filled(marked("987654321"), hands(*"abcdefghi")), row("ihgfedcba"))

    def test_a_hand_several_times_and_not_at_all(self):
        self.assertEqual(filled(marked("1111"), hands("ab", "c")), row("abababab"))
        self.assertEqual(filled(marked("x11{1}"), hands("ab")), row("xabab{ab}"))

    def test_rows_without_pieces_and_with_groups(self):
        self.assertEqual(filled(marked("a1b2"), hands("", "")), row("ab"))
        self.assertEqual(filled(marked("1"), hands("")), [])
        self.assertEqual(filled(marked("{1}2"), hands("{a}", "{}{b{c}}")), row("{{a}}{}{b{c}}"))

    def test_hands_within_handed_rows_stay(self):
        self.assertEqual(filled(marked("12"), [[("hand", 2)], [("hand", 1), A]]), [("hand", 2), ("hand", 1), A])

    def test_what_is_told_is_new(self):
        given = hands("ab")
        told = filled(marked("1"), given)
        self.assertIsNot(told, given[0])
        told.append(BLANK)
        told[0] = B
        self.assertEqual(given, hands("ab"))
        again = filled(body=marked("1"), hands=given)
        self.assertEqual(again, row("ab"))
        given[0].clear()
        self.assertEqual(again, row("ab"))
        self.assertIsNot(filled((), []), filled((), []))

    def test_what_is_handed_in_stays(self):
        body, given = marked("a1{2}1"), hands("x", "{y}")
        filled(body, given)
        self.assertEqual(body, marked("a1{2}1"))
        self.assertEqual(given, hands("x", "{y}"))


class PlaceTest(unittest.TestCase):
    def test_all_is_defined_in_this_file(self):
        for told in (is_rule, rule_in, filled):
            self.assertEqual(told.__module__, rules.__name__)


if __name__ == "__main__":
    unittest.main()
