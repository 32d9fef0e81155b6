"""Signs, kinds, pieces and rows of pieces."""

from mouthrules.errors import NoKinds, NoSign

KINDS = ("escape", "open", "shut", "mark", "letter", "other", "blank", "active", "remark", "gone")

LETTERS = "abcdefghijklmnopqrstuvwxyzABCDEFGHIJKLMNOPQRSTUVWXYZ"

FIRST_BUT_LETTERS = {
    " ": "blank",
    "\t": "blank",
    "\n": "blank",
    "\\": "escape",
    "{": "open",
    "}": "shut",
    "#": "mark",
    "~": "active",
    "!": "remark",
}

# Words of pieces that go with any sign; a blank piece has the one sign " " alone.
WORDS_OF_ANY_SIGN = ("open", "shut", "mark", "letter", "other", "active")

BLANK = ("blank", " ")

MOST_SIGNS_OF_NAME = 30

DIGITS = "0123456789"

MOST_HANDS = 9


def is_sign(thing):
    """Whether this is a text of one of the signs that are."""
    if not isinstance(thing, str) or len(thing) != 1:
        return False
    return " " <= thing <= "~" or thing in ("\t", "\n")


def is_whole(thing):
    """Whether this is a whole number, which True and False are not."""
    return isinstance(thing, int) and not isinstance(thing, bool)


def is_kind(thing):
    """Whether this is the word of a kind."""
    return isinstance(thing, str) and thing in KINDS


def first_kinds():
    """A new dict: the table of kinds at first."""
    kinds = {sign: "letter" for sign in LETTERS}
    for sign in FIRST_BUT_LETTERS:
        kinds[sign] = FIRST_BUT_LETTERS[sign]
    return kinds


def are_kinds(thing):
    """Whether this is a table of kinds."""
    if not isinstance(thing, dict):
        return False
    return all([is_sign(sign) and is_kind(kind) for sign, kind in thing.items()])


def kind_in(kinds, sign):
    """The kind of a sign by a table, neither of which is looked at."""
    return kinds.get(sign, "other")


def kind_of(kinds, sign):
    """The kind of a sign by a table, of anything."""
    if not are_kinds(kinds):
        raise NoKinds(kinds)
    if not is_sign(sign):
        raise NoSign(sign)
    return kind_in(kinds, sign)


def is_name(thing):
    """Whether this is a text that can be the name of a piece."""
    if not isinstance(thing, str) or not 1 <= len(thing) <= MOST_SIGNS_OF_NAME:
        return False
    return all([is_sign(sign) for sign in thing])


def is_piece(thing):
    """Whether this is a piece."""
    if not isinstance(thing, tuple) or len(thing) != 2:
        return False
    word, signs = thing
    if not isinstance(word, str):
        return False
    if word in WORDS_OF_ANY_SIGN:
        return is_sign(signs)
    if word == "blank":
        return is_sign(signs) and signs == " "
    if word == "name":
        return is_name(signs)
    return word == "hand" and is_whole(signs) and 1 <= signs <= MOST_HANDS


def turn_of(piece):
    """How many groups more stand open behind a piece than ahead of it."""
    if piece[0] == "open":
        return 1
    return -1 if piece[0] == "shut" else 0


def is_row(thing):
    """Whether this is a row."""
    return isinstance(thing, list) and all([is_piece(piece) for piece in thing])


def is_balanced(thing):
    """Whether this is a row in which each shut piece fits an open one ahead of it."""
    if not is_row(thing):
        return False
    depth = 0
    for piece in thing:
        depth += turn_of(piece)
        if depth < 0:
            return False
    return depth == 0
