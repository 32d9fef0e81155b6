"""Looks at what is handed in to read by: texts, texts by their names, and numbers of rounds."""

from mouthrules.errors import NoMost, NoText, NoTexts
from mouthrules.pieces import is_whole

SMALL_LETTERS = "abcdefghijklmnopqrstuvwxyz"

MOST_LETTERS = 8

MOST_ROUNDS = 5000


def is_title(thing):
    """Whether this can be the name of a text or of a bench."""
    if not isinstance(thing, str) or not 1 <= len(thing) <= MOST_LETTERS:
        return False
    return all([sign in SMALL_LETTERS for sign in thing])


def are_texts(thing):
    """Whether this is a dict from names to texts."""
    if not isinstance(thing, dict):
        return False
    return all([is_title(title) and isinstance(text, str) for title, text in thing.items()])


def look_at_text(thing):
    """NoText where this is no text."""
    if not isinstance(thing, str):
        raise NoText(thing)


def texts_from(thing):
    """A new dict of the texts that were handed in, none where None was; NoTexts where they are no such dict."""
    if thing is None:
        return {}
    if not are_texts(thing):
        raise NoTexts(thing)
    return dict(thing)


def look_at_most(thing):
    """NoMost where this is no number of rounds."""
    if not is_whole(thing) or not 0 <= thing <= MOST_ROUNDS:
        raise NoMost(thing)
