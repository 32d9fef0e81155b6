"""Taking by tables of falls, which goes along a row once, and what parts two rows of marks."""

from mouthrules.along import Along
from mouthrules.errors import Fault
from mouthrules.pieces import is_whole, turn_of
from mouthrules.taking import bare_hand, handed, parted, pass_lead

EMPTY_GROUP = (("open", "{"), ("shut", "}"))


def standing_behind(end, falls, many, piece):
    """How many first pieces of an end stand last behind a piece, where as many, not all, stand ahead of it."""
    while many > 0 and end[many] != piece:
        many = falls[many - 1]
    return many + 1 if end[many] == piece else 0


def falls_of(end):
    """The table of an end."""
    falls = [0]
    for piece in end[1:]:
        falls.append(standing_behind(end, falls, falls[-1], piece))
    return falls


def is_falls(end, thing):
    """Whether this is the table of an end."""
    if not isinstance(thing, list) or not all([is_whole(number) for number in thing]):
        return False
    return thing == falls_of(end)


def ends_in(marks):
    """The ends of the hands that have one, in order."""
    lead, ends = parted(marks)
    return [end for end in ends if end]


def hand_by_falls(end, falls, source):
    """What a hand with an end takes by the end's table; the end is taken, too."""
    row, depth, many = [], 0, 0
    while many < len(end):
        piece = source.wanted()
        depth += turn_of(piece)
        if depth < 0:
            raise Fault("groups")
        row.append(piece)
        # The shut piece that ends a group stands in no end, so it sets back to none as the group does.
        many = standing_behind(end, falls, many, piece) if depth == 0 else 0
    return handed(row[:-len(end)])


def taken_by_falls(marks, tables, row):
    """The same as taken, by one table for each hand that has an end."""
    along = Along(row)
    lead, ends = parted(marks)
    pass_lead(lead, along)
    hands, used = [], 0
    for end in ends:
        if end:
            hands.append(hand_by_falls(end, tables[used], along))
            used += 1
        else:
            hands.append(bare_hand(along))
    return hands, along.at


def just_met(marks):
    """A row that marks take whole, handing nothing for each hand."""
    lead, ends = parted(marks)
    row = list(lead)
    for end in ends:
        row.extend([*EMPTY_GROUP, *end])
    return row


def first_unlike(one, other):
    """The first place at which two unlike rows of marks are unlike."""
    at = 0
    while at < len(one) and at < len(other) and one[at] == other[at]:
        at += 1
    return at


def wants_piece(marks, at):
    """Whether a piece that isn't a hand must stand there by marks."""
    return at < len(marks) and marks[at][0] != "hand"


def parting(one, other):
    """A row without hands by which two rows of marks take otherwise; None where they are the same."""
    if one == other:
        return None
    at = first_unlike(one, other)
    # Those that want no piece of their own there, if either are so, are just met. All ahead is taken
    # alike by both. Then the others don't find the piece that they want there, by which they are
    # refused, or hand the last group and more; or neither wants a piece, and one has fewer hands.
    return just_met(other if wants_piece(one, at) else one)
