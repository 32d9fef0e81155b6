"""Parts of what is asked for by pieces exchanged as long as can be: a piece, a sign, a name, a number.

A part takes one piece after another, none of which can be exchanged, till it is met; found is then what it is.
"""

from mouthrules.books import GREAT, is_box
from mouthrules.errors import Fault
from mouthrules.pieces import BLANK, DIGITS, MOST_SIGNS_OF_NAME

WORDS_IN_NAMES = ("letter", "other", "blank")


class Part:
    """What all parts have; by itself the next piece, whatever it is."""

    def __init__(self):
        self.is_met = False
        self.found = None

    def take(self, gullet, piece):
        """Take the next piece."""
        self.meet(piece)

    def meet(self, found):
        """This is what the part is."""
        self.is_met = True
        self.found = found

    def miss(self, gullet):
        """No piece is there any more."""
        raise Fault("ends")


class SignPart(Part):
    """One of some signs, behind blanks."""

    def __init__(self, signs):
        super().__init__()
        self.signs = signs

    def take(self, gullet, piece):
        """Take the next piece."""
        word, sign = piece
        if word == "other" and sign in self.signs:
            self.meet(sign)
        elif piece != BLANK:
            raise Fault("number")


class NamePart(Part):
    """The signs of a name up to what means endname."""

    def __init__(self):
        super().__init__()
        self.signs = ""

    def take(self, gullet, piece):
        """Take the next piece."""
        word, sign = piece
        if gullet.deed(piece) == "endname" and self.signs:
            self.meet(self.signs)
        elif word in WORDS_IN_NAMES and len(self.signs) < MOST_SIGNS_OF_NAME:
            self.signs = self.signs + sign
        else:
            raise Fault("name")


class NumberPart(Part):
    """A number, or a box and the number of it, or a box and the box that has the number of it, .."""

    def __init__(self):
        super().__init__()
        # The sign of the number read now stands last, ahead of it those of the boxes that it leads to.
        self.turns = [1]
        self.size = None

    def take(self, gullet, piece):
        """Take the next piece."""
        word, sign = piece
        if word == "other" and sign in DIGITS:
            self.take_figure(int(sign))
        elif self.size is not None:
            if piece != BLANK:
                gullet.put_row([piece])
            self.close(gullet)
        elif piece == ("other", "-"):
            self.turns.append(-self.turns.pop())
        elif gullet.deed(piece) == "box":
            self.turns.append(1)
        elif piece != BLANK:
            raise Fault("number")

    def take_figure(self, figure):
        """Take one figure more."""
        self.size = figure if self.size is None else self.size * 10 + figure
        if self.size >= GREAT:
            raise Fault("great")

    def miss(self, gullet):
        """No piece is there any more, which is how a number may end."""
        if self.size is None:
            raise Fault("ends")
        self.close(gullet)

    def close(self, gullet):
        """The last figure is read: what the number comes to by the boxes ahead of it."""
        number = self.size * self.turns.pop()
        while self.turns:
            if not is_box(number):
                raise Fault("number")
            number = gullet.number_box(number) * self.turns.pop()
        self.meet(number)


class BoxPart(NumberPart):
    """A number that is the number of a box."""

    def meet(self, found):
        """This is what the part is, if it is the number of a box."""
        if not is_box(found):
            raise Fault("number")
        super().meet(found)


def part_of(word):
    """A new part by its word; signs stand for one of them."""
    if word == "piece":
        return Part()
    if word == "name":
        return NamePart()
    if word == "number":
        return NumberPart()
    if word == "box":
        return BoxPart()
    return SignPart(word)
