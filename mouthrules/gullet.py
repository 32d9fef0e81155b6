"""The gullet: rows and texts wait in it and are read piece by piece, by a book and by asks that are open."""

from mouthrules.books import EXCHANGED
from mouthrules.errors import Ends, Fault
from mouthrules.mouth import MORE, Mouth

MOST_PIECES = 2000

MOST_TEXTS = 30

MOST_EXCHANGES = 300

# What stands in open_asks for an ask that is still being asked.
BEING_ASKED = "asked"


class MoreWanted(RuntimeError):
    """The first text, which is open, must be fed ahead of the next piece; made of a text."""


class Level:
    """A text that waits, or none, and the pieces of rows ahead of it, of which the last one is read first."""

    def __init__(self, mouth, pieces):
        self.mouth = mouth
        self.pieces = pieces

    def twin(self):
        """A level like this one, which has a text, that goes on by itself."""
        return Level(self.mouth.twin(), list(self.pieces))

    def is_like(self, other):
        """Whether what waits there is alike."""
        if self.pieces != other.pieces or self.mouth.place() != other.mouth.place():
            return False
        return self.mouth.text() == other.mouth.text()


class Gullet:
    """What waits, of which the last level is read first; the first level alone waits to the end."""

    def __init__(self, first, book, texts):
        self.levels = [first]
        self.own_book = book
        self.own_texts = texts
        self.open_asks = []
        self.exchanges = 0
        self.leans = {}

    def raw(self):
        """The next piece of what waits, None where none is there."""
        while True:
            level = self.levels[-1]
            if level.pieces:
                return level.pieces.pop()
            piece = None if level.mouth is None else self.read_by(level.mouth)
            if piece is not None or len(self.levels) == 1:
                return piece
            self.levels.pop()

    def wanted(self):
        """The next piece of what waits; Fault where none is there."""
        piece = self.raw()
        if piece is None:
            raise Fault("ends")
        return piece

    def read_by(self, mouth):
        """The next piece of a text, None where it is over."""
        start = mouth.place()
        try:
            piece = mouth.following(self.own_book.table)
        except Ends:
            raise Fault("ends") from None
        if piece == MORE:
            raise MoreWanted("more of the first text is wanted")
        # The sign behind may have been looked at, too. It needn't be told here: leans are told of rows alone that
        # were gone through to the end, and so all signs of their texts are read or passed by then.
        for sign in mouth.text()[start:mouth.place()]:
            self.leans[("kind", sign)] = True
        return piece

    def put_row(self, row):
        """Put a row ahead of all that waits."""
        self.levels[-1].pieces.extend(row[::-1])
        self.look_how_much_waits()

    def put_text(self, title):
        """Put the text of that name ahead of all that waits."""
        self.leans[("text", title)] = True
        if title not in self.own_texts:
            raise Fault("text")
        self.levels.append(Level(Mouth(self.own_texts[title]), []))
        self.look_how_much_waits()

    def look_how_much_waits(self):
        """Fault where more waits than may, behind something put."""
        texts = len([level for level in self.levels if level.mouth is not None])
        if texts > MOST_TEXTS or self.pieces_waiting() > MOST_PIECES:
            raise Fault("long")

    def pieces_waiting(self):
        """How many pieces of rows wait."""
        return sum([len(level.pieces) for level in self.levels])

    def count_exchange(self):
        """Count one exchange more; Fault where that is one too many."""
        self.exchanges += 1
        if self.exchanges > MOST_EXCHANGES:
            raise Fault("long")

    def meaning(self, piece):
        """The meaning of a piece, by the book where that has one."""
        if piece[0] not in ("name", "active"):
            return ("piece", piece)
        self.leans[piece] = True
        return self.own_book.kept_at(piece)

    def deed(self, piece):
        """The word of the deed that a piece means, None where it means none."""
        meaning = self.meaning(piece)
        return meaning[1] if meaning is not None and meaning[0] == "deed" else None

    def is_exchanged(self, piece):
        """Whether a piece can be exchanged now."""
        meaning = self.meaning(piece)
        if meaning is None or meaning[0] != "deed":
            return meaning is not None and meaning[0] == "rule"
        word = meaning[1]
        if word in ("else", "fi") and self.open_asks and self.open_asks[-1] == BEING_ASKED:
            return False
        return word in EXCHANGED

    def number_box(self, number):
        """The worth of a number box."""
        self.leans[("box", number)] = True
        return self.own_book.kept_at(("box", number))

    def row_box(self, number):
        """The row of a row box."""
        self.leans[("row", number)] = True
        return list(self.own_book.kept_at(("row", number)))

    def first_mouth(self):
        """The mouth of the first text."""
        return self.levels[0].mouth

    def place(self):
        """The places of all texts that wait, the first one first."""
        return tuple([level.mouth.place() for level in self.levels])

    def waiting(self):
        """The row that waits ahead of the last text."""
        return self.levels[-1].pieces[::-1]

    def twin(self):
        """A gullet like this one ahead of a round, that goes on by itself."""
        first, *rest = [level.twin() for level in self.levels]
        twin = Gullet(first, self.own_book.twin(), self.own_texts)
        twin.levels.extend(rest)
        twin.open_asks = list(self.open_asks)
        return twin

    def is_like(self, other):
        """Whether all that is still to come of both is alike."""
        if self.open_asks != other.open_asks or len(self.levels) != len(other.levels):
            return False
        if not all([one.is_like(level) for one, level in zip(self.levels, other.levels)]):
            return False
        return self.own_book == other.own_book
