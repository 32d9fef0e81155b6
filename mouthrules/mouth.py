"""The mouth: the signs of a text become pieces, by the table of kinds of each reading."""

from mouthrules.errors import Ends, Shut
from mouthrules.pieces import BLANK, MOST_SIGNS_OF_NAME, kind_in

MORE = ("more",)

# Stands for a piece where an escape has no sign behind it; no piece has one part alone.
LONE_ESCAPE = ("escape",)


def behind_remark(signs, at):
    """The place behind the remark whose sign stands there."""
    # A remark sign may be a line feed itself, so this searches from the sign on, not behind it.
    feed = signs.find("\n", at)
    return len(signs) if feed < 0 else feed + 1


def behind_passed(signs, at, kinds):
    """The place behind the gone signs and remarks that stand there."""
    while at < len(signs):
        kind = kind_in(kinds, signs[at])
        if kind == "gone":
            at += 1
        elif kind == "remark":
            at = behind_remark(signs, at)
        else:
            break
    return at


def behind_run(signs, at, stop, kinds, kind):
    """The place behind the signs of that kind that stand there, ahead of stop."""
    while at < stop and kind_in(kinds, signs[at]) == kind:
        at += 1
    return at


def name_at(signs, escape, kinds):
    """What piece_at tells where an escape stands."""
    many = len(signs)
    start = escape + 1
    if start == many:
        return LONE_ESCAPE, escape, False
    if kind_in(kinds, signs[start]) != "letter":
        return ("name", signs[start]), start + 1, True
    stop = min(start + MOST_SIGNS_OF_NAME, many)
    end = behind_run(signs, start, stop, kinds, "letter")
    behind = behind_run(signs, end, many, kinds, "blank")
    return ("name", signs[start:end]), behind, behind < many


def piece_at(signs, start, kinds):
    """The piece that begins there, the place behind it, and whether signs fed later leave it so."""
    many = len(signs)
    if start == many:
        return None, many, False
    sign = signs[start]
    kind = kind_in(kinds, sign)
    if kind == "escape":
        return name_at(signs, start, kinds)
    if kind == "blank":
        behind = behind_run(signs, start, many, kinds, "blank")
        return BLANK, behind, behind < many
    return (kind, sign), start + 1, True


class Mouth:
    """Reads a text from the left to the right; open, it gets more text till it is shut."""

    def __init__(self, text, *, is_open=False):
        self.signs = text
        self.at = 0
        self.growing = is_open

    def following(self, kinds):
        """The next piece; None where the text is over; ("more",) where it must be fed first."""
        start = behind_passed(self.signs, self.at, kinds)
        piece, behind, is_sure = piece_at(self.signs, start, kinds)
        if self.growing and not is_sure:
            return MORE
        self.at = behind
        if piece == LONE_ESCAPE:
            raise Ends("no sign stands behind the escape")
        return piece

    def feed(self, text):
        """Put more text behind what it has."""
        if not self.growing:
            raise Shut("a mouth that is shut isn't fed")
        self.signs = self.signs + text

    def shut(self):
        """No more text will come."""
        self.growing = False

    def place(self):
        """How many signs it has read."""
        return self.at

    def is_open(self):
        """Whether it may be fed."""
        return self.growing

    def text(self):
        """All the text that it has, read or not."""
        return self.signs

    def twin(self):
        """A mouth with the same text and place, that goes on by itself."""
        twin = Mouth(self.signs, is_open=self.growing)
        twin.at = self.at
        return twin
