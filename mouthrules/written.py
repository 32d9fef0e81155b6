"""Rows written as texts that are read back to just them."""

from mouthrules.errors import NoWriting
from mouthrules.pieces import BLANK, kind_in


def least_sign(kinds, kind):
    """The least sign of a kind that isn't other; no sign where there is none."""
    return min([sign for sign in kinds if kinds[sign] == kind], default="")


def takes_blanks(piece, kinds):
    """Whether blanks right behind that piece are read with it: where it is a blank, or a name of letters of a table."""
    word, signs = piece
    return word == "blank" or word == "name" and all([kind_in(kinds, sign) == "letter" for sign in signs])


def signs_of(piece, kinds, escape, blank):
    """The signs of a piece by a table and its least signs of two kinds; none where it can't be written."""
    word, signs = piece
    if piece == BLANK:
        return blank
    if word != "name":
        return signs if kind_in(kinds, signs) == word else ""
    is_of_letters = takes_blanks(piece, kinds)
    if not escape or is_of_letters and not blank or not is_of_letters and len(signs) > 1:
        return ""
    return escape + signs + blank if is_of_letters else escape + signs


def written(row, kinds):
    """The text of a row by a table of kinds."""
    escape, blank = least_sign(kinds, "escape"), least_sign(kinds, "blank")
    texts, blanks_are_taken = [], False
    for number, piece in enumerate(row):
        signs = signs_of(piece, kinds, escape, blank)
        if not signs or blanks_are_taken and piece == BLANK:
            raise NoWriting(number)
        texts.append(signs)
        blanks_are_taken = takes_blanks(piece, kinds)
    return "".join(texts)
