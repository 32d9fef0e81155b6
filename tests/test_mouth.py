"""Points 6 and 7, of point 3 what holds of the mouth, and point 2 of mouthrules/mouth.py."""

import itertools
import random
import re
import unittest

from mouthrules import mouth
from mouthrules.errors import Ends, MouthError, Shut
from mouthrules.mouth import Mouth
from mouthrules.pieces import first_kinds, is_piece, kind_of

MORE = ("more",)
BLANK = ("blank", " ")
ENDS = "ends"
EVERY_SIGN = [chr(number) for number in range(32, 127)] + ["\t", "\n"]


def kinds_with(**words):
    """The first table, with each sign of the texts handed in turned to that kind."""
    kinds = first_kinds()
    for word, signs in words.items():
        for sign in signs:
            kinds[sign] = word
    return kinds


def told_by(reader, kinds):
    """What one reading tells, ENDS where it is refused so."""
    try:
        return reader.following(kinds)
    except Ends:
        return ENDS


def pieces_of(text, kinds):
    """All that a text tells, each with the place behind it, up to None or ENDS."""
    reader, told = Mouth(text), []
    while True:
        piece = told_by(reader, kinds)
        told.append((piece, reader.place()))
        if piece in (None, ENDS):
            return told


def only_pieces(text, kinds=None):
    return [piece for piece, place in pieces_of(text, kinds or first_kinds())]


def by_portions(portions, kinds):
    """The same as pieces_of, fed by portions, each read as far as it goes before the next one."""
    reader, told = Mouth("", is_open=True), []
    for portion in portions:
        reader.feed(portion)
        while True:
            place = reader.place()
            piece = told_by(reader, kinds)
            if piece == MORE:
                assert reader.place() == place
                break
            assert is_piece(piece), piece
            told.append((piece, reader.place()))
    reader.shut()
    while not told or told[-1][0] not in (None, ENDS):
        piece = told_by(reader, kinds)
        told.append((piece, reader.place()))
    return told


# The first table with "?" gone, as one search: another way to the same pieces.
ONE_PIECE = re.compile(r"(?P<gone>(?:\?|![^\n]*(?:\n|\Z))*)(?:"
                       r"\\(?P<name>[A-Za-z]{1,30})[ \t\n]*|\\(?P<sign>[^A-Za-z])|(?P<lone>\\)\Z|"
                       r"(?P<blank>[ \t\n]+)|(?P<other>[^\\ \t\n])|(?P<over>\Z))", re.DOTALL)


def pieces_by_search(text):
    kinds = kinds_with(gone="?")
    at, told = 0, []
    while True:
        found = ONE_PIECE.match(text, at)
        at = found.end()
        if found["over"] is not None:
            return [*told, (None, at)]
        if found["lone"]:
            return [*told, (ENDS, at - 1)]
        if found["blank"]:
            piece = BLANK
        elif found["other"]:
            piece = (kinds.get(found["other"], "other"), found["other"])
        else:
            piece = ("name", found["name"] or found["sign"])
        told.append((piece, at))


class FollowingTest(unittest.TestCase):
    def test_each_kind_of_sign_piece(self):
        for word in ("open", "shut", "mark", "letter", "other", "active"):
            for sign in EVERY_SIGN:
                with self.subTest(word=word, sign=sign):
                    reader = Mouth(sign + sign)
                    self.assertEqual(reader.following({sign: word}), (word, sign))
                    self.assertEqual(reader.place(), 1)
                    self.assertEqual(reader.following({sign: word}), (word, sign))
                    self.assertEqual(reader.place(), 2)
                    self.assertIsNone(reader.following({sign: word}))

    def test_a_sign_out_of_the_table_is_other(self):
        for sign in EVERY_SIGN:
            self.assertEqual(Mouth(sign).following({}), ("other", sign))

    def test_the_first_table(self):
        self.assertEqual(only_pieces("\\def{#1~ ;}!x\nZ"),
                         [("name", "def"), ("open", "{"), ("mark", "#"), ("other", "1"), ("active", "~"), BLANK,
                          ("other", ";"), ("shut", "}"), ("letter", "Z"), None])

    def test_all_first_signs(self):
        kinds = first_kinds()
        for sign in EVERY_SIGN:
            kind = kind_of(kinds, sign)
            wanted = {"escape": ENDS, "blank": BLANK, "remark": None}.get(kind, (kind, sign))
            with self.subTest(sign=sign):
                self.assertEqual(told_by(Mouth(sign), kinds), wanted)

    def test_blanks_are_one_piece(self):
        for blanks in (" ", "\t", "\n", "   ", " \t\n \n", "\n\n"):
            with self.subTest(blanks=blanks):
                self.assertEqual(pieces_of("a" + blanks + "b", first_kinds()),
                                 [(("letter", "a"), 1), (BLANK, 1 + len(blanks)),
                                  (("letter", "b"), 2 + len(blanks)), (None, 2 + len(blanks))])
                self.assertEqual(pieces_of(blanks, first_kinds()), [(BLANK, len(blanks)), (None, len(blanks))])

    def test_a_blank_piece_has_the_blank_whatever_the_sign(self):
        self.assertEqual(Mouth("xx").following({"x": "blank"}), BLANK)
        self.assertEqual(Mouth(" ").following({}), ("other", " "))

    def test_only_blanks_right_behind_are_passed(self):
        kinds = kinds_with(gone="?")
        self.assertEqual(pieces_of("  ?  a", kinds), [(BLANK, 2), (BLANK, 5), (("letter", "a"), 6), (None, 6)])
        self.assertEqual(pieces_of(" !\n a", kinds), [(BLANK, 1), (BLANK, 4), (("letter", "a"), 5), (None, 5)])

    def test_gone_ones_ahead_of_a_piece(self):
        kinds = kinds_with(gone="?%")
        self.assertEqual(pieces_of("?%?a??b", kinds), [(("letter", "a"), 4), (("letter", "b"), 7), (None, 7)])

    def test_gone_ones_at_the_end_are_read_where_none_is_told(self):
        reader = Mouth("a??")
        kinds = kinds_with(gone="?")
        reader.following(kinds)
        self.assertEqual(reader.place(), 1)
        self.assertIsNone(reader.following(kinds))
        self.assertEqual(reader.place(), 3)

    def test_remarks_ahead_of_a_piece(self):
        kinds = kinds_with(gone="?")
        self.assertEqual(pieces_of("!ab{\\\na", kinds), [(("letter", "a"), 7), (None, 7)])
        self.assertEqual(pieces_of("!\n!!x\n?!\na", kinds), [(("letter", "a"), 10), (None, 10)])

    def test_the_line_feed_of_a_remark_is_read_with_it(self):
        self.assertEqual(only_pieces("a!b\nc"), [("letter", "a"), ("letter", "c"), None])
        self.assertEqual(only_pieces("a!b\n\nc"), [("letter", "a"), BLANK, ("letter", "c"), None])

    def test_the_line_feed_ends_a_remark_whatever_its_kind(self):
        for word in ("letter", "escape", "gone", "open", "remark", "other"):
            self.assertEqual(only_pieces("!b\nc", kinds_with(**{word: "\n"})), [("letter", "c"), None])

    def test_remarks_at_the_end(self):
        self.assertEqual(pieces_of("a!", first_kinds()), [(("letter", "a"), 1), (None, 2)])
        self.assertEqual(pieces_of("a!bcd", first_kinds()), [(("letter", "a"), 1), (None, 5)])
        self.assertEqual(pieces_of("a!bcd\n", first_kinds()), [(("letter", "a"), 1), (None, 6)])
        self.assertEqual(pieces_of("!\\", first_kinds()), [(None, 2)])

    def test_a_line_feed_that_is_a_remark_is_passed_alone(self):
        kinds = kinds_with(remark="\n")
        self.assertEqual(pieces_of("\na\n\nb!c\nd\n", kinds),
                         [(("letter", "a"), 2), (("letter", "b"), 5), (("letter", "d"), 9), (None, 10)])

    def test_active_ones(self):
        self.assertEqual(only_pieces("~~a", kinds_with(active="a")), [("active", "~"), ("active", "~"),
                                                                      ("active", "a"), None])
        self.assertEqual(only_pieces("~ a"), [("active", "~"), BLANK, ("letter", "a"), None])

    def test_names_of_letters(self):
        self.assertEqual(only_pieces("\\abC1"), [("name", "abC"), ("other", "1"), None])
        self.assertEqual(only_pieces("\\a\\b"), [("name", "a"), ("name", "b"), None])
        self.assertEqual(only_pieces("\\12", kinds_with(letter="123")), [("name", "12"), None])
        self.assertEqual(only_pieces("\\ab", {"\\": "escape"}), [("name", "a"), ("other", "b"), None])

    def test_names_of_thirty_letters_and_of_more(self):
        for many in range(1, 65):
            with self.subTest(many=many):
                wanted = [("name", "a" * min(many, 30))] + [("letter", "a")] * (many - 30) + [None]
                self.assertEqual(only_pieces("\\" + "a" * many), wanted)
                self.assertEqual(only_pieces("\\" + "a" * many + "\\"), wanted[:-1] + [ENDS])
        self.assertEqual(pieces_of("\\" + "a" * 30 + "  b", first_kinds()),
                         [(("name", "a" * 30), 33), (("letter", "b"), 34), (None, 34)])
        self.assertEqual(pieces_of("\\" + "a" * 31 + "  b", first_kinds()),
                         [(("name", "a" * 30), 31), (("letter", "a"), 32), (BLANK, 34), (("letter", "b"), 35),
                          (None, 35)])

    def test_blanks_behind_a_name_of_letters_are_passed(self):
        self.assertEqual(pieces_of("\\ab \t\n a", first_kinds()),
                         [(("name", "ab"), 7), (("letter", "a"), 8), (None, 8)])
        self.assertEqual(pieces_of("\\ab  ", first_kinds()), [(("name", "ab"), 5), (None, 5)])

    def test_other_things_behind_a_name_of_letters_are_not_passed(self):
        kinds = kinds_with(gone="?")
        self.assertEqual(pieces_of("\\a?b", kinds), [(("name", "a"), 2), (("letter", "b"), 4), (None, 4)])
        self.assertEqual(pieces_of("\\a ? b", kinds), [(("name", "a"), 3), (BLANK, 5), (("letter", "b"), 6), (None, 6)])
        self.assertEqual(pieces_of("\\a!\n b", kinds),
                         [(("name", "a"), 2), (BLANK, 5), (("letter", "b"), 6), (None, 6)])

    def test_names_of_one_other_sign(self):
        kinds = kinds_with(gone="?")
        for sign in EVERY_SIGN:
            if kind_of(kinds, sign) != "letter":
                with self.subTest(sign=sign):
                    self.assertEqual(pieces_of("\\" + sign + "a", kinds)[:2],
                                     [(("name", sign), 2), (("letter", "a"), 3)])

    def test_blanks_behind_a_name_of_another_sign_are_not_passed(self):
        self.assertEqual(pieces_of("\\; a", first_kinds()),
                         [(("name", ";"), 2), (BLANK, 3), (("letter", "a"), 4), (None, 4)])
        self.assertEqual(pieces_of("\\  a", first_kinds()),
                         [(("name", " "), 2), (BLANK, 3), (("letter", "a"), 4), (None, 4)])

    def test_the_sign_of_an_escape_is_whichever_has_that_kind(self):
        kinds = {"/": "escape", "a": "letter"}
        self.assertEqual(only_pieces("/aa\\/b", kinds), [("name", "aa"), ("other", "\\"), ("name", "b"), None])

    def test_an_escape_at_the_end(self):
        reader = Mouth("a\\")
        reader.following(first_kinds())
        for _ in range(3):
            self.assertRaises(Ends, reader.following, first_kinds())
            self.assertEqual(reader.place(), 1)

    def test_what_is_passed_ahead_of_an_escape_at_the_end_stays_read(self):
        reader = Mouth("a??!x\n?\\")
        kinds = kinds_with(gone="?")
        reader.following(kinds)
        self.assertEqual(reader.place(), 1)
        for _ in range(3):
            self.assertRaises(Ends, reader.following, kinds)
            self.assertEqual(reader.place(), 7)
        self.assertEqual(reader.following(first_kinds() | {"\\": "other"}), ("other", "\\"))
        self.assertEqual(reader.place(), 8)

    def test_the_refusal_is_none_of_things(self):
        with self.assertRaises(Ends) as caught:
            Mouth("\\").following(first_kinds())
        self.assertNotIsInstance(caught.exception, MouthError)

    def test_none_again_and_again(self):
        for text in ("", "a", "!", "?", "  "):
            reader = Mouth(text)
            kinds = kinds_with(gone="?")
            while reader.following(kinds) is not None:
                pass
            for _ in range(3):
                self.assertIsNone(reader.following(kinds))
                self.assertIsNone(reader.following({}))
                self.assertEqual(reader.place(), len(text))

    def test_each_text_of_few_signs_by_another_way(self):
        kinds = kinds_with(gone="?")
        for many in range(7):
            for signs in itertools.product("a \\!\n?{", repeat=many):
                text = "".join(signs)
                self.assertEqual(pieces_of(text, kinds), pieces_by_search(text), text)

    def test_all_told_is_pieces(self):
        chance = random.Random(6)
        for _ in range(300):
            text = "".join(chance.choice(EVERY_SIGN) for _ in range(60))
            self.assertTrue(all(is_piece(piece) for piece, place in pieces_of(text, first_kinds())
                                if piece not in (None, ENDS)))


class TurningTest(unittest.TestCase):
    def test_tables_that_turn_between_two_readings(self):
        reader = Mouth("aaaa")
        self.assertEqual(reader.following({"a": "letter"}), ("letter", "a"))
        self.assertEqual(reader.following({"a": "active"}), ("active", "a"))
        self.assertEqual(reader.following({}), ("other", "a"))
        self.assertIsNone(reader.following({"a": "gone"}))
        self.assertEqual(reader.place(), 4)

    def test_one_table_that_is_turned_between_two_readings(self):
        kinds = first_kinds()
        reader = Mouth("\\abab")
        kinds["b"] = "other"
        self.assertEqual(reader.following(kinds), ("name", "a"))
        kinds["b"] = "mark"
        self.assertEqual(reader.following(kinds), ("mark", "b"))
        kinds["a"] = "escape"
        self.assertEqual(reader.following(kinds), ("name", "b"))

    def test_no_sign_is_read_farther_than_its_piece_needs(self):
        reader = Mouth("\\a  b")
        self.assertEqual(reader.following(kinds_with(other=" ")), ("name", "a"))
        self.assertEqual(reader.place(), 2)
        self.assertEqual(reader.following(first_kinds()), BLANK)
        reader = Mouth("a?b!c\nd")
        self.assertEqual(reader.following(first_kinds()), ("letter", "a"))
        self.assertEqual(reader.place(), 1)
        self.assertEqual(reader.following(first_kinds()), ("other", "?"))
        self.assertEqual(reader.following(first_kinds()), ("letter", "b"))
        self.assertEqual(reader.following(kinds_with(other="!")), ("other", "!"))
        reader = Mouth("\\;  a")
        reader.following(first_kinds())
        self.assertEqual(reader.following(kinds_with(letter=" ")), ("letter", " "))

    def test_a_sign_told_as_more_gets_its_kind_when_it_is_read(self):
        reader = Mouth("?!a", is_open=True)
        self.assertEqual(reader.following(kinds_with(gone="?")), MORE)
        self.assertEqual(reader.following(first_kinds()), ("other", "?"))
        self.assertEqual(reader.following(kinds_with(other="!")), ("other", "!"))
        reader = Mouth("\\ab", is_open=True)
        self.assertEqual(reader.following(first_kinds()), MORE)
        self.assertEqual(reader.following(kinds_with(other="b")), ("name", "a"))
        self.assertEqual(reader.following(first_kinds()), ("letter", "b"))
        reader = Mouth("\\", is_open=True)
        self.assertEqual(reader.following(first_kinds()), MORE)
        self.assertEqual(reader.following({}), ("other", "\\"))

    def test_the_table_is_neither_changed_nor_kept(self):
        kinds = kinds_with(gone="?")
        kept = dict(kinds)
        reader = Mouth("?a!\n\\b  ~")
        while reader.following(kinds) is not None:
            self.assertEqual(kinds, kept)
        self.assertEqual(kinds, kept)

    def test_signs_behind_the_piece_are_not_asked_for(self):
        for text, many in [("ab", 1), ("~b", 1), ("\\;b", 2), ("  ab", 3), ("\\ab;;", 4), ("\\ab  ;;", 6),
                           ("\\" + "a" * 40, 32), ("!xyz\nab", 6), ("?ab", 2)]:
            told = [Mouth(text).following(kinds_with(gone="?"))]
            for sign in EVERY_SIGN:
                told.append(Mouth(text[:many] + sign * 3).following(kinds_with(gone="?")))
            with self.subTest(text=text):
                self.assertEqual(told, told[:1] * len(told))


class OpenTest(unittest.TestCase):
    def assert_more(self, text, place=0, kinds=None):
        """Of an open mouth that has told all up to place: it tells more, again and again, and stays."""
        reader = Mouth(text, is_open=True)
        kinds = kinds or kinds_with(gone="?")
        while reader.place() < place:
            self.assertTrue(is_piece(reader.following(kinds)))
        for _ in range(3):
            self.assertEqual(reader.following(kinds), MORE)
            self.assertEqual(reader.place(), place)
        return reader

    def test_more_at_the_end(self):
        self.assert_more("")
        self.assert_more("a", 1)
        self.assert_more("{}~;", 4)
        self.assert_more("\\;", 2)
        self.assert_more("\\ ", 2)

    def test_more_of_a_name_of_letters(self):
        for many in (1, 2, 29, 30):
            self.assert_more("\\" + "a" * many)
            self.assert_more("\\" + "a" * many + " ")
            self.assert_more("\\" + "a" * many + " \n ")
        self.assert_more(";\\ab", 1)

    def test_a_name_of_letters_is_told_where_its_end_shows(self):
        for name in ("ab", "a" * 30):
            for behind in (";", "{", "\\", "!", "?", "1", "  ;", "  a", " \n\\"):
                with self.subTest(name=name, behind=behind):
                    reader = Mouth("\\" + name + behind, is_open=True)
                    self.assertEqual(reader.following(kinds_with(gone="?")), ("name", name))
                    self.assertEqual(reader.place(), len(name) + len(behind))
        reader = Mouth("\\" + "a" * 31, is_open=True)
        self.assertEqual(reader.following(first_kinds()), ("name", "a" * 30))
        self.assertEqual(reader.place(), 31)

    def test_more_of_blanks(self):
        self.assert_more(" ")
        self.assert_more(" \t\n")
        self.assert_more("a  ", 1)

    def test_blanks_are_told_where_their_end_shows(self):
        for sign in "a;{!?\\~#":
            reader = Mouth("  " + sign, is_open=True)
            self.assertEqual(reader.following(kinds_with(gone="?")), BLANK)
            self.assertEqual(reader.place(), 2)

    def test_more_of_remarks_and_gone_ones(self):
        self.assert_more("!")
        self.assert_more("!abc\\")
        self.assert_more("!abc\n")
        self.assert_more("?")
        self.assert_more("a??!x\n?", 1)
        self.assert_more("\n", kinds=kinds_with(remark="\n"))

    def test_more_of_an_escape_at_the_end(self):
        self.assert_more("\\")
        self.assert_more("a\\", 1)
        self.assert_more("??!\n\\")

    def test_the_place_stays_ahead_of_what_would_be_passed(self):
        self.assert_more("a??", 1)
        self.assert_more("a??!x\n\\", 1)
        self.assert_more("a??!x\n\\bc", 1)
        self.assert_more("a??!x\n  ", 1)
        self.assert_more("a??!x", 1)

    def test_pieces_of_one_sign_are_told_at_once(self):
        kinds = first_kinds()
        for sign in EVERY_SIGN:
            kind = kind_of(kinds, sign)
            if kind in ("open", "shut", "mark", "letter", "other", "active"):
                reader = Mouth("!\n" + sign, is_open=True)
                self.assertEqual(reader.following(kinds), (kind, sign))
                self.assertEqual(reader.place(), 3)
            if kind != "letter":
                reader = Mouth("\\" + sign, is_open=True)
                self.assertEqual(reader.following(kinds), ("name", sign))
                self.assertEqual(reader.place(), 2)

    def test_fed_it_goes_on(self):
        reader = self.assert_more("a?\\b", 1)
        self.assertIsNone(reader.feed("c"))
        self.assertEqual(reader.following(kinds_with(gone="?")), MORE)
        reader.feed("")
        self.assertEqual(reader.following(kinds_with(gone="?")), MORE)
        reader.feed(" ;")
        self.assertEqual(reader.following(kinds_with(gone="?")), ("name", "bc"))
        self.assertEqual(reader.place(), 6)
        self.assertEqual(reader.text(), "a?\\bc ;")

    def test_shut_it_tells_what_it_has(self):
        reader = self.assert_more("\\b")
        self.assertIsNone(reader.shut())
        self.assertEqual(reader.following(first_kinds()), ("name", "b"))
        self.assertIsNone(reader.following(first_kinds()))
        reader = self.assert_more("a??!x\n\\", 1)
        reader.shut()
        self.assertRaises(Ends, reader.following, kinds_with(gone="?"))
        self.assertEqual(reader.place(), 6)
        reader = self.assert_more("a?!", 1)
        reader.shut()
        self.assertIsNone(reader.following(kinds_with(gone="?")))
        self.assertEqual(reader.place(), 3)

    def test_feeding_what_is_shut(self):
        reader = Mouth("ab", is_open=True)
        reader.feed("c")
        reader.shut()
        reader.shut()
        for closed in (reader, Mouth("abc"), Mouth("abc", is_open=False)):
            for text in ("d", ""):
                self.assertRaises(Shut, closed.feed, text)
                self.assertEqual((closed.text(), closed.place(), closed.is_open()), ("abc", 0, False))
        self.assertEqual(reader.following(first_kinds()), ("letter", "a"))

    def test_is_open(self):
        self.assertIs(Mouth("").is_open(), False)
        self.assertIs(Mouth("", is_open=False).is_open(), False)
        reader = Mouth("", is_open=True)
        self.assertIs(reader.is_open(), True)
        reader.feed("a")
        reader.following({})
        self.assertIs(reader.is_open(), True)
        reader.shut()
        self.assertIs(reader.is_open(), False)

    def test_text_is_all_that_it_has(self):
        reader = Mouth("a!b\n", is_open=True)
        self.assertEqual(reader.text(), "a!b\n")
        reader.following(first_kinds())
        reader.feed("\\c")
        reader.feed("")
        self.assertEqual(reader.text(), "a!b\n\\c")
        reader.shut()
        self.assertEqual(reader.text(), "a!b\n\\c")
        self.assertEqual(reader.place(), 1)

    def test_arguments_by_names(self):
        reader = Mouth(text="a", is_open=True)
        reader.feed(text="b")
        self.assertEqual(reader.following(kinds={}), ("other", "a"))
        self.assertEqual(Mouth(is_open=False, text="a").text(), "a")
        with self.assertRaises(TypeError):
            Mouth("a", True)
        self.assertRaises(TypeError, Mouth)


class PortionsTest(unittest.TestCase):
    def test_each_text_of_few_signs_sign_by_sign(self):
        kinds = kinds_with(gone="?")
        for many in range(6):
            for signs in itertools.product("a \\!\n?{", repeat=many):
                text = "".join(signs)
                self.assertEqual(by_portions(text, kinds), pieces_of(text, kinds), text)
                self.assertEqual(by_portions(["", text, ""], kinds), pieces_of(text, kinds), text)

    def test_each_cut_of_a_text(self):
        text = "\\abc  \\; ?!re\\m\n{#1}~~ \t\n\\" + "x" * 30 + " \\" + "y" * 33 + "??!\n"
        for end in ("", "\\", "!", "  ", "\\z", "\\z "):
            for kinds in (kinds_with(gone="?"), kinds_with(remark="\n"), kinds_with(letter="?", escape="~")):
                whole = text + end
                wanted = pieces_of(whole, kinds)
                for cut in range(len(whole) + 1):
                    self.assertEqual(by_portions([whole[:cut], whole[cut:]], kinds), wanted)
                self.assertEqual(by_portions(whole, kinds), wanted)

    def test_portions_by_chance_with_tables_that_turn(self):
        chance = random.Random(7)
        tables = [first_kinds(), kinds_with(gone="?"), kinds_with(remark="\n"), kinds_with(escape="a"),
                  kinds_with(blank="a;", letter=" "), {}]
        for _ in range(1000):
            text = "".join(chance.choice("ab \\!\n?{;~") for _ in range(chance.randrange(25)))
            order = [chance.choice(tables) for _ in range(60)]
            self.assertEqual(self.turned(text, order, None), self.turned(text, order, chance), text)

    def turned(self, text, order, chance):
        """All that is told where each reading has the next table; by portions if chance is handed in."""
        reader = Mouth("" if chance else text, is_open=chance is not None)
        fed, told = 0, []
        for kinds in order:
            piece = told_by(reader, kinds)
            while piece == MORE:
                if fed == len(text):
                    reader.shut()
                else:
                    more = chance.randrange(4)
                    reader.feed(text[fed:fed + more])
                    fed = min(len(text), fed + more)
                piece = told_by(reader, kinds)
            told.append((piece, reader.place()))
        return told

    def test_a_long_text_sign_by_sign(self):
        for text in ("!" + "a" * 5998, " " * 5999, "?" * 5999, "\\a" + " " * 5997, "\\ab {~} " * 749):
            kinds = kinds_with(gone="?")
            self.assertEqual(by_portions([text[at:at + 60] for at in range(0, len(text), 60)], kinds),
                             pieces_of(text, kinds))


class TwinTest(unittest.TestCase):
    def test_a_twin_has_the_same(self):
        reader = Mouth("ab", is_open=True)
        reader.following({})
        twin = reader.twin()
        self.assertIsInstance(twin, Mouth)
        self.assertIsNot(twin, reader)
        self.assertEqual((twin.text(), twin.place(), twin.is_open()), ("ab", 1, True))
        reader.shut()
        self.assertEqual((reader.twin().text(), reader.twin().place(), reader.twin().is_open()), ("ab", 1, False))

    def test_a_twin_goes_on_by_itself(self):
        reader = Mouth("ab", is_open=True)
        reader.following({})
        twin = reader.twin()
        twin.feed("x")
        self.assertEqual(twin.following({}), ("other", "b"))
        self.assertEqual(twin.following({}), ("other", "x"))
        self.assertEqual((reader.text(), reader.place()), ("ab", 1))
        reader.feed("yz")
        reader.shut()
        self.assertEqual([reader.following({}) for _ in range(4)],
                         [("other", "b"), ("other", "y"), ("other", "z"), None])
        self.assertIs(twin.is_open(), True)
        self.assertEqual(twin.following({}), MORE)
        twin.feed("w")
        self.assertEqual(twin.following({}), ("other", "w"))
        self.assertEqual(twin.text(), "abxw")
        self.assertRaises(Shut, reader.feed, "v")

    def test_a_twin_of_a_twin_and_at_a_refusal(self):
        reader = Mouth("?\\")
        kinds = kinds_with(gone="?")
        self.assertRaises(Ends, reader.following, kinds)
        twin = reader.twin().twin()
        self.assertEqual(twin.place(), 1)
        self.assertRaises(Ends, twin.following, kinds)


class PlaceTest(unittest.TestCase):
    def test_the_class_has_its_methods_itself(self):
        self.assertEqual(Mouth.__module__, mouth.__name__)
        for name in ("__init__", "following", "feed", "shut", "place", "is_open", "text", "twin"):
            self.assertIn(name, vars(Mouth))


if __name__ == "__main__":
    unittest.main()
