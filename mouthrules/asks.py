"""Asks: which of two branches is read, and how the other one is passed over."""

from mouthrules.gullet import BEING_ASKED

ASKS = ("iflike", "ifsame", "ifkind", "ifless")


def begin_ask(gullet):
    """Begin an ask; its number, from 0, among those that are open."""
    gullet.open_asks.append(BEING_ASKED)
    return len(gullet.open_asks) - 1


def answer(gullet, number, is_so):
    """The ask of that number is so, or isn't, and its first branch is passed over."""
    if is_so:
        gullet.open_asks[number] = "so"
    elif pass_branch(gullet, number) == "else":
        gullet.open_asks.append("else")


def pass_branch(gullet, number):
    """Pass all up to the else or fi of the ask of that number, which is taken off with those begun behind it."""
    within = len(gullet.open_asks) - number - 1
    while True:
        word = gullet.deed(gullet.wanted())
        if word in ASKS:
            within += 1
        elif word in ("else", "fi") and within == 0:
            del gullet.open_asks[number:]
            return word
        elif word == "fi":
            within -= 1


def kind_asked(gullet, piece):
    """The word and the sign by which asks compare a piece; no sign where it has none."""
    meaning = gullet.meaning(piece)
    if meaning is None or meaning[0] != "piece" or piece[0] == "hand":
        return ("name", None)
    return meaning[1]


def is_less(one, sign, other):
    """Whether one number stands to another as the sign tells."""
    if sign == "<":
        return one < other
    return one == other if sign == "=" else one > other
