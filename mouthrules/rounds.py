"""Rounds: a text is read round by round, each of which is done whole or not at all."""

from mouthrules.asked import look_at_text, texts_from
from mouthrules.books import Book
from mouthrules.deeds import done
from mouthrules.errors import Fault
from mouthrules.exchanges import exchange
from mouthrules.gullet import Gullet, Level, MoreWanted
from mouthrules.mouth import MORE, Mouth

OVER = ("over",)


def end_of(gullet):
    """What is told where no raw piece is there any more."""
    if gullet.open_asks:
        raise Fault("ask")
    if gullet.own_book.depth() > 0:
        raise Fault("groups")
    return OVER


def round_in(gullet):
    """Go one round; what is told of it."""
    piece = gullet.raw()
    if piece is None:
        return end_of(gullet)
    if gullet.is_exchanged(piece):
        exchange(gullet, piece)
        return ("exchanged", piece)
    return done(gullet, piece)


def told_in(gullet):
    """Go one round; what is told of it, also where it is at fault or where more is wanted."""
    try:
        return round_in(gullet)
    except MoreWanted:
        return MORE
    except Fault as fault:
        return ("fault", fault.word)


def twin_or_new(book):
    """A book to go on by itself like the one that was handed in, a new one where None was."""
    return Book() if book is None else book.twin()


class Reading:
    """A text that is being read: what waits, what was put to the told row, and what was told of the end."""

    def __init__(self, gullet):
        self.gullet = gullet
        self.told = []
        self.rounds = 0
        self.ending = None

    def step(self):
        """Go one round; what is told of it. A round at fault, or that wants more, leaves all as it is."""
        if self.ending is not None:
            return self.ending
        trial = self.gullet.twin()
        told = told_in(trial)
        if told[0] in ("over", "fault"):
            self.ending = told
        if told[0] not in ("fault", "more"):
            self.gullet = trial
        if told[0] in ("put", "exchanged", "done"):
            self.rounds += 1
        if told[0] == "put":
            self.told.append(told[1])
        return told

    def end_word(self):
        """The word of the end, more where it hasn't ended."""
        return "more" if self.ending is None else self.ending[-1]

    def run(self, most):
        """Go so many rounds at most; the word of the end, or more."""
        for number in range(most):
            if self.step()[0] in ("over", "fault", "more"):
                break
        return self.end_word()

    def twin(self):
        """A reading like this one, that goes on by itself."""
        twin = Reading(self.gullet.twin())
        twin.told = list(self.told)
        twin.rounds = self.rounds
        twin.ending = self.ending
        return twin


def reading_of(text, book, texts, is_open):
    """A reading of a text that was handed in with these."""
    look_at_text(text)
    kept_texts = texts_from(texts)
    first = Level(Mouth(text, is_open=is_open), [])
    return Reading(Gullet(first, twin_or_new(book), kept_texts))
