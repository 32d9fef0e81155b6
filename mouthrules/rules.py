"""Rules: marks, by which handed pieces are taken, and a body, which is filled by them."""

from mouthrules.along import Along
from mouthrules.errors import Fault
from mouthrules.pieces import is_balanced, is_piece, turn_of

MOST_MARKS = 30

# The figure of each hand, one behind the other.
FIGURES = "123456789"

WORDS_OF_NO_MARKS = ("open", "shut", "mark")


def hands_among(pieces):
    """The numbers of the hands that stand there, in their order."""
    return [number for word, number in pieces if word == "hand"]


def are_marks(thing):
    """Whether these are the marks of a rule."""
    if not isinstance(thing, tuple) or len(thing) > MOST_MARKS:
        return False
    if not all([is_piece(piece) and piece[0] not in WORDS_OF_NO_MARKS for piece in thing]):
        return False
    hands = hands_among(thing)
    return hands == list(range(1, len(hands) + 1))


def is_body(thing, many):
    """Whether this is the body of a rule whose marks have so many hands."""
    if not isinstance(thing, tuple) or not is_balanced(list(thing)):
        return False
    return all([number <= many for number in hands_among(thing)])


def is_rule(thing):
    """Whether this is a rule."""
    if not isinstance(thing, tuple) or len(thing) != 2:
        return False
    marks, body = thing
    return are_marks(marks) and is_body(body, len(hands_among(marks)))


def marks_from(source):
    """The marks that a source has next, up to the open piece, which is taken too."""
    marks, hands = [], 0
    while True:
        piece = source.wanted()
        if piece[0] == "open":
            return tuple(marks)
        if piece[0] == "shut":
            raise Fault("groups")
        if piece[0] == "mark":
            hands += 1
            # No sign is "10", so a tenth hand is refused here, too.
            if source.wanted() != ("other", str(hands)):
                raise Fault("marks")
            piece = ("hand", hands)
        if len(marks) == MOST_MARKS:
            raise Fault("marks")
        marks.append(piece)


def marked_in_body(piece, hands):
    """What a mark in a body makes with the piece behind it, where as many hands are there."""
    word, sign = piece
    if word == "mark":
        return piece
    if word != "other" or sign not in FIGURES[:hands]:
        raise Fault("marks")
    return ("hand", int(sign))


def body_from(source, hands):
    """The body that a source has next, up to the shut piece that fits, which is taken too."""
    body, depth = [], 1
    while True:
        piece = source.wanted()
        depth += turn_of(piece)
        if depth == 0:
            return tuple(body)
        if piece[0] == "mark":
            piece = marked_in_body(source.wanted(), hands)
        body.append(piece)


def rule_from(source):
    """The rule that a source has next."""
    marks = marks_from(source)
    return marks, body_from(source, len(hands_among(marks)))


def rule_in(row):
    """The rule that a row without hands begins with, and how many pieces it took."""
    along = Along(row)
    rule = rule_from(along)
    return rule, along.at


def filled(body, hands):
    """The row that a body is with each hand's row in its place."""
    row = []
    for piece in body:
        if piece[0] == "hand":
            row.extend(hands[piece[1] - 1])
        else:
            row.append(piece)
    return row
