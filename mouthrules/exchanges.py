"""Exchanges: what is done with a piece that can be exchanged, and with all that this asks for.

An exchange may want pieces that are exchanged first, which may want others, and so on. What is begun so waits in
a list of its own, not in calls within calls, of which there may not be as many as exchanges.
"""

from mouthrules.asks import ASKS, answer, begin_ask, is_less, kind_asked, pass_branch
from mouthrules.errors import Fault
from mouthrules.gullet import MOST_PIECES
from mouthrules.parts import part_of
from mouthrules.rules import filled
from mouthrules.taking import hands_from, rest_of_group

# The parts that each of these wants, ahead of what FINISHES tells.
WANTS = {
    "name": ("name",),
    "ifsame": ("piece", "piece"),
    "ifkind": ("piece", "piece"),
    "ifless": ("number", "<=>", "number"),
    "figures": ("number",),
    "row": ("box",),
}


class Task:
    """Something begun, by its word: the parts that it wants, those found, and what it holds."""

    def __init__(self, word, wants, held):
        self.word = word
        self.wants = wants
        self.held = held
        self.found = []
        self.part = None

    def is_done(self):
        """Whether all its parts are found."""
        return len(self.found) == len(self.wants)

    def part_wanted(self):
        """The part that is being met."""
        if self.part is None:
            self.part = part_of(self.wants[len(self.found)])
        return self.part

    def close_part(self):
        """Keep the part that is being met, if it is."""
        if self.part.is_met:
            self.found.append(self.part.found)
            self.part = None


def past_blanks(gullet):
    """The next raw piece that is no blank."""
    piece = gullet.wanted()
    while piece[0] == "blank":
        piece = gullet.wanted()
    return piece


def raw_group(gullet, word):
    """The row in the raw group behind blanks; Fault by that word where none begins there."""
    if past_blanks(gullet)[0] != "open":
        raise Fault(word)
    return rest_of_group(gullet)


def use_rule(gullet, marks, body):
    """Take what the marks of a rule take, and put its filled body."""
    hands = hands_from(marks, gullet)
    # Looked at ahead, as a body may have many hands and each of them many pieces.
    many = sum([len(hands[piece[1] - 1]) if piece[0] == "hand" else 1 for piece in body])
    if many > MOST_PIECES:
        raise Fault("long")
    gullet.put_row(filled(body, hands))


def ask_like(gullet):
    """Ask whether the meanings of two raw pieces are alike."""
    number = begin_ask(gullet)
    one, other = gullet.wanted(), gullet.wanted()
    answer(gullet, number, gullet.meaning(one) == gullet.meaning(other))


def take_else(gullet):
    """An else is met: what is behind it is passed over."""
    if not gullet.open_asks or gullet.open_asks[-1] != "so":
        raise Fault("ask")
    if pass_branch(gullet, len(gullet.open_asks) - 1) == "else":
        raise Fault("ask")


def take_fi(gullet):
    """A fi is met: the last ask ends."""
    if not gullet.open_asks:
        raise Fault("ask")
    gullet.open_asks.pop()


def put_named_text(gullet):
    """Put the text whose name is in a raw group."""
    group = raw_group(gullet, "text")
    if not all([piece[0] == "letter" for piece in group]):
        raise Fault("text")
    gullet.put_text("".join([piece[1] for piece in group]))


def put_held(gullet, task):
    """Behind the exchange of the second piece, the first one is put."""
    gullet.put_row([task.held])


def put_name(gullet, task):
    """Put a made name, which means skip where it means nothing."""
    piece = ("name", task.found[0])
    if gullet.meaning(piece) is None:
        gullet.own_book.put(piece, ("deed", "skip"))
    gullet.put_row([piece])


def put_figures(gullet, task):
    """Put the figures of a number."""
    gullet.put_row([("other", sign) for sign in str(task.found[0])])


def put_row_box(gullet, task):
    """Put the row of a row box."""
    gullet.put_row(gullet.row_box(task.found[0]))


def answer_same(gullet, task):
    """Whether the signs of two pieces are alike."""
    one, other = task.found
    answer(gullet, task.held, kind_asked(gullet, one)[1] == kind_asked(gullet, other)[1])


def answer_kind(gullet, task):
    """Whether the kinds of two pieces are alike."""
    one, other = task.found
    answer(gullet, task.held, kind_asked(gullet, one)[0] == kind_asked(gullet, other)[0])


def answer_less(gullet, task):
    """Whether a number stands to another as told between them."""
    one, sign, other = task.found
    answer(gullet, task.held, is_less(one, sign, other))


def leave_found(gullet, task):
    """What was found is looked at by the one who wanted it."""


# What is exchanged without any other exchange.
AT_ONCE = {"iflike": ask_like, "else": take_else, "fi": take_fi, "text": put_named_text}

# What is done where all parts are found.
FINISHES = {
    "behind": put_held,
    "name": put_name,
    "ifsame": answer_same,
    "ifkind": answer_kind,
    "ifless": answer_less,
    "figures": put_figures,
    "row": put_row_box,
    "gathered": leave_found,
}


def begin_deed(gullet, begun, word):
    """Begin the exchange of what means a deed; told is a piece that is to be exchanged next, if one is."""
    if word == "behind":
        first, second = gullet.wanted(), gullet.wanted()
        begun.append(Task("behind", (), first))
        if gullet.is_exchanged(second):
            return second
        gullet.put_row([second])
    elif word in AT_ONCE:
        act = AT_ONCE[word]
        act(gullet)
    else:
        begun.append(Task(word, WANTS[word], begin_ask(gullet) if word in ASKS else None))
    return None


def begin_exchange(gullet, begun, piece):
    """Begin the exchange of a piece, and of the one behind the next where behind exchanges that."""
    while piece is not None:
        gullet.count_exchange()
        word, *parts = gullet.meaning(piece)
        if word == "rule":
            marks, body = parts
            use_rule(gullet, marks, body)
            return
        piece = begin_deed(gullet, begun, parts[0])


def supply(gullet, begun, task):
    """Give a task the next piece, or exchange that first."""
    part, piece = task.part_wanted(), gullet.raw()
    if piece is None:
        part.miss(gullet)
    elif gullet.is_exchanged(piece):
        begin_exchange(gullet, begun, piece)
    else:
        part.take(gullet, piece)
    task.close_part()


def settle(gullet, begun):
    """Go on till nothing that was begun is left."""
    while begun:
        task = begun[-1]
        if task.is_done():
            begun.pop()
            finish = FINISHES[task.word]
            finish(gullet, task)
        else:
            supply(gullet, begun, task)


def exchange(gullet, piece):
    """Exchange a piece, with all that this asks for."""
    begun = []
    begin_exchange(gullet, begun, piece)
    settle(gullet, begun)


def gathered(gullet, wants):
    """The parts that are wanted, of pieces exchanged as long as can be."""
    task = Task("gathered", wants, None)
    settle(gullet, [task])
    return task.found
