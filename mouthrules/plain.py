"""The plain reading of a text."""

from mouthrules.asked import look_at_most
from mouthrules.rounds import reading_of

MOST = 2000


def plain(text, *, book=None, texts=None, most=MOST):
    """Read a text by at most so many rounds: a word, the told row, the places, the rounds and the book."""
    reading = reading_of(text, book, texts, False)
    look_at_most(most)
    word = reading.run(most)
    gullet = reading.gullet
    return word, reading.told, gullet.place(), reading.rounds, gullet.own_book
