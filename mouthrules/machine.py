"""The machine, which reads a text round by round; rows gone through; rings."""

from mouthrules.asked import look_at_most, texts_from
from mouthrules.plain import MOST
from mouthrules.rounds import reading_of, twin_or_new
from mouthrules.through import gone, gullet_of_row


class Machine:
    """Reads a text round by round; open, it gets more text till it is shut."""

    def __init__(self, text, *, book=None, texts=None, is_open=False):
        self.reading = reading_of(text, book, texts, is_open)

    def round(self):
        """Go one round; what is told of it."""
        return self.reading.step()

    def run(self, *, most=MOST):
        """Go so many rounds at most; the word of the end, or more."""
        look_at_most(most)
        return self.reading.run(most)

    def feed(self, text):
        """Put more text behind the first one."""
        self.reading.gullet.first_mouth().feed(text)

    def shut(self):
        """No more text will come."""
        self.reading.gullet.first_mouth().shut()

    def row(self):
        """What was put to the told row."""
        return list(self.reading.told)

    def waiting(self):
        """The row that waits ahead of the last text that waits."""
        return self.reading.gullet.waiting()

    def asks(self):
        """The open asks, each by so or else."""
        return list(self.reading.gullet.open_asks)

    def place(self):
        """The places of all texts that wait, the first one first."""
        return self.reading.gullet.place()

    def book(self):
        """A twin of its book."""
        return self.reading.gullet.own_book.twin()

    def twin(self):
        """A machine like this one, that goes on by itself."""
        twin = Machine("")
        twin.reading = self.reading.twin()
        return twin

    def __len__(self):
        return len(range(self.reading.rounds))


def gone_through(row, *, book=None, texts=None):
    """The row that a row comes to, and what it leaned on."""
    gullet = gullet_of_row(row, twin_or_new(book), texts_from(texts))
    told = gone(gullet)
    return told, sorted(list(gullet.leans))


def goes_on(machine):
    """Go one round; whether that was none of the end."""
    return machine.round()[0] in ("put", "exchanged", "done")


def are_like(one, other):
    """Whether all that is still to come of both machines is alike."""
    return one.reading.gullet.is_like(other.reading.gullet)


def ring_length(machine, most):
    """How many rounds a ring takes that is met within so many rounds; 0 where none is, or the machine ends.

    One twin goes on and another one stays, which follows in leaps that grow, so that few are kept and each round
    is compared just once. Behind so many rounds it follows for the last time: if a ring was met by then, that is
    on it, and is met again within as many.
    """
    staying, going = machine.twin(), machine.twin()
    since, leap = 0, 1
    for done in range(2 * most):
        if done == most or since == leap and done < most:
            staying, since, leap = going.twin(), 0, 2 * leap
        if not goes_on(going):
            return 0
        since += 1
        if are_like(staying, going):
            return since
    return 0


def ring(machine, *, most=MOST):
    """The first two numbers of rounds behind which all is alike; None where none are within so many."""
    look_at_most(most)
    length = ring_length(machine, most)
    if length == 0:
        return None
    one, later = machine.twin(), machine.twin()
    later.run(most=min(length, most))
    for number in range(most - length + 1):
        if are_like(one, later):
            return number, number + length
        one.round()
        later.round()
    return None
