"""What several tests of rows share: short ways to write rows and marks, and things that are neither."""

import itertools

from mouthrules.errors import Fault

OPEN, SHUT, MARK, BLANK = ("open", "{"), ("shut", "}"), ("mark", "#"), ("blank", " ")
A, B = ("letter", "a"), ("letter", "b")

WORDS = {"{": "open", "}": "shut", "#": "mark", " ": "blank", "~": "active"}


def piece_of(sign):
    return (WORDS.get(sign, "letter" if sign.isalpha() else "other"), sign)


def row(text):
    """The row that has one piece for each sign, of the kind that the sign has at first."""
    return [piece_of(sign) for sign in text]


def marked(text):
    """A tuple like row's, in which figures are hands."""
    return tuple(("hand", int(sign)) if sign in "123456789" else piece_of(sign) for sign in text)


def hands(*texts):
    return [row(text) for text in texts]


def texts_of(signs, longest):
    """All texts of these signs up to that length."""
    for many in range(longest + 1):
        for text in itertools.product(signs, repeat=many):
            yield "".join(text)


def all_marks(signs, longest):
    """All marks of these signs, and of hands where a figure may stand, up to that length."""
    told = []
    for text in texts_of(signs + "1", longest):
        number = itertools.count(1)
        told.append(marked("".join(str(next(number)) if sign == "1" else sign for sign in text)))
    return told


def told_or_word(asked, *arguments, **more):
    """What is told, or the word of the fault by which it is refused."""
    try:
        return asked(*arguments, **more)
    except Fault as fault:
        return fault.word


def endless_list():
    endless = []
    endless.append(endless)
    return endless


def endless_dict():
    endless = {}
    endless["a"] = endless
    return endless


def odd_things():
    """Things of all sorts; none is a rule, a table for an end, a key, a worth or a piece."""
    deep = ("name", "a")
    for _ in range(5000):
        deep = ("name", deep)
    return [True, False, 1.0, 1.5, float("nan"), float("inf"), 10 ** 12, 10 ** 70, -10 ** 12, b"a", bytearray(b"a"),
            "", "a", "letters", (), ("a",), ("name",), ("name", ""), ["a"], [["a"]], {}, {"a": "letter"}, {"a"},
            frozenset("a"), object(), int, len, lambda: 1, range(3), iter("a"), ValueError("a"), endless_list(),
            endless_dict(), Ellipsis, deep, [deep], ((), [], ()), [None], [()], ("more",)]
