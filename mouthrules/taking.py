"""Taking: by marks a row hands pieces, which are found by going along it."""

from mouthrules.along import Along
from mouthrules.errors import Fault
from mouthrules.pieces import turn_of


def parted(marks):
    """The pieces ahead of the first hand, and each hand's end, which has no piece where it is bare."""
    lead, ends = [], []
    for piece in marks:
        if piece[0] == "hand":
            ends.append([])
        elif ends:
            ends[-1].append(piece)
        else:
            lead.append(piece)
    return tuple(lead), [tuple(end) for end in ends]


def pass_lead(lead, source):
    """Take the pieces that must stand ahead of the first hand."""
    for piece in lead:
        if source.wanted() != piece:
            raise Fault("use")


def rest_of_group(source):
    """The row up to the shut piece that fits an open one taken ahead; it is taken, but left out."""
    row, depth = [], 1
    while True:
        piece = source.wanted()
        depth += turn_of(piece)
        if depth == 0:
            return row
        row.append(piece)


def bare_hand(source):
    """What a hand without an end takes."""
    piece = source.wanted()
    while piece[0] == "blank":
        piece = source.wanted()
    if piece[0] == "shut":
        raise Fault("groups")
    if piece[0] == "open":
        return rest_of_group(source)
    return [piece]


def is_one_group(row):
    """Whether a balanced row is just one group."""
    depth = 0
    for number, piece in enumerate(row):
        depth += turn_of(piece)
        if depth == 0:
            return number > 0 and number == len(row) - 1
    return False


def handed(row):
    """What a row found ahead of an end hands."""
    return row[1:-1] if is_one_group(row) else row


def hand_up_to(end, source):
    """What a hand with an end takes; the end is taken, too."""
    row, depth = [], 0
    while True:
        piece = source.wanted()
        depth += turn_of(piece)
        if depth < 0:
            raise Fault("groups")
        row.append(piece)
        # An end has no open and no shut piece, so it stands outside of groups where its last one does.
        if depth == 0 and tuple(row[-len(end):]) == end:
            return handed(row[:-len(end)])


def hands_from(marks, source):
    """The rows that a source hands by marks."""
    lead, ends = parted(marks)
    pass_lead(lead, source)
    hands = []
    for end in ends:
        hands.append(hand_up_to(end, source) if end else bare_hand(source))
    return hands


def taken(marks, row):
    """The rows that a row hands by marks, and how many pieces were taken."""
    along = Along(row)
    hands = hands_from(marks, along)
    return hands, along.at
