"""Going through: a row comes to another one, by what is exchanged alone."""

from mouthrules.errors import Fault
from mouthrules.exchanges import exchange, gathered
from mouthrules.gullet import Gullet, Level
from mouthrules.pieces import is_balanced


def gullet_of_row(row, book, texts):
    """A gullet in which a row alone waits; the book is its own."""
    return Gullet(Level(None, list(row[::-1])), book, texts)


def row_met(gullet):
    """The row of the row box to which a piece leads that was met just now; it is taken as it is, and not put."""
    gullet.count_exchange()
    (number,) = gathered(gullet, ("box",))
    return gullet.row_box(number)


def gone(gullet):
    """The row to which comes what waits."""
    row = []
    while (piece := gullet.raw()) is not None:
        deed = gullet.deed(piece)
        if deed == "stay":
            row.append(gullet.wanted())
        elif deed == "row":
            row.extend(row_met(gullet))
        elif gullet.is_exchanged(piece):
            exchange(gullet, piece)
        else:
            row.append(piece)
    if gullet.open_asks:
        raise Fault("ask")
    if not is_balanced(row):
        raise Fault("groups")
    return row
