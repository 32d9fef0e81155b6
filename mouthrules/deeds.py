"""Deeds: what is done with a piece that can't be exchanged."""

from mouthrules.books import GREAT
from mouthrules.errors import Fault
from mouthrules.exchanges import gathered, past_blanks, raw_group
from mouthrules.pieces import is_kind
from mouthrules.rules import rule_from
from mouthrules.through import gone, gullet_of_row


def raw_target(gullet):
    """The raw name or active sign behind blanks, which is given a meaning."""
    piece = past_blanks(gullet)
    if piece[0] not in ("name", "active"):
        raise Fault("marks")
    return piece


def set_rule(gullet, for_all):
    """A name or active sign means a rule."""
    target = raw_target(gullet)
    gullet.own_book.put(target, ("rule", *rule_from(gullet)), for_all=for_all)


def set_through(gullet, for_all):
    """A name or active sign means a rule whose body is gone through first."""
    target = raw_target(gullet)
    marks, body = rule_from(gullet)
    inner = gullet_of_row(body, gullet.own_book.twin(), gullet.own_texts)
    inner.exchanges = gullet.exchanges
    gullet.own_book.put(target, ("rule", marks, tuple(gone(inner))), for_all=for_all)


def set_like(gullet, for_all):
    """A name or active sign means what the next piece means."""
    target = raw_target(gullet)
    piece = past_blanks(gullet)
    if piece == ("other", "="):
        piece = past_blanks(gullet)
    gullet.own_book.put(target, gullet.meaning(piece), for_all=for_all)


def sign_in(group):
    """The sign of the one piece of a group, whose kind is to be set."""
    if len(group) != 1 or len(group[0][1]) != 1:
        raise Fault("kind")
    return group[0][1]


def kind_in_group(group):
    """The kind that the letters of a group spell."""
    kind = "".join([piece[1] for piece in group if piece[0] == "letter"])
    if len(kind) != len(group) or not is_kind(kind):
        raise Fault("kind")
    return kind


def set_kind(gullet, for_all):
    """A sign has a kind."""
    one, other = raw_group(gullet, "kind"), raw_group(gullet, "kind")
    gullet.own_book.put(("kind", sign_in(one)), kind_in_group(other), for_all=for_all)


def set_box(gullet, for_all):
    """A number box has a number."""
    box, sign, number = gathered(gullet, ("box", "=", "number"))
    gullet.own_book.put(("box", box), number, for_all=for_all)


def add_to_box(gullet, for_all):
    """A number box has that much more."""
    box, sign, number = gathered(gullet, ("box", "=", "number"))
    number = number + gullet.number_box(box)
    if abs(number) >= GREAT:
        raise Fault("great")
    gullet.own_book.put(("box", box), number, for_all=for_all)


def keep_row(gullet, for_all):
    """A row box has a row."""
    box, sign = gathered(gullet, ("box", "="))
    gullet.own_book.put(("row", box), raw_group(gullet, "number"), for_all=for_all)


# What sets, for all or not.
SETTING = {
    "rule": set_rule,
    "through": set_through,
    "like": set_like,
    "kind": set_kind,
    "set": set_box,
    "add": add_to_box,
    "keep": keep_row,
}


def set_for_all(gullet):
    """The next piece sets, and does so for all."""
    word = "all"
    while word == "all":
        (piece,) = gathered(gullet, ("piece",))
        word = gullet.deed(piece)
    if word not in SETTING:
        raise Fault("all")
    act = SETTING[word]
    act(gullet, True)


def end_group(gullet, word):
    """End a group, and put what was left for later."""
    gullet.put_row(gullet.own_book.end(word))


def do_nothing(gullet):
    """Nothing is done."""


def begin_by_deed(gullet):
    """Begin a group by deeds."""
    gullet.own_book.begin("deeds")


def end_by_deed(gullet):
    """End a group by deeds."""
    end_group(gullet, "deeds")


def leave_for_later(gullet):
    """The next piece is left for the group's end."""
    gullet.own_book.leave(gullet.wanted())


def refuse_box(gullet):
    """A box stands where no number is read."""
    raise Fault("number")


def refuse_endname(gullet):
    """An endname stands where no name is made."""
    raise Fault("name")


# What is done beside setting.
DOING = {
    "all": set_for_all,
    "open": begin_by_deed,
    "shut": end_by_deed,
    "later": leave_for_later,
    "skip": do_nothing,
    "stay": do_nothing,
    "box": refuse_box,
    "endname": refuse_endname,
}


def do_deed(gullet, word):
    """Do a deed by its word."""
    if word in SETTING:
        act = SETTING[word]
        act(gullet, False)
    else:
        act = DOING[word]
        act(gullet)


def do_sign(gullet, piece):
    """Do what a sign piece, or a hand, asks for; whether it is put to the told row."""
    word = piece[0]
    if word in ("mark", "hand"):
        raise Fault("mark")
    if word == "open":
        gullet.own_book.begin("signs")
    elif word == "shut":
        end_group(gullet, "signs")
    return word in ("letter", "other", "blank")


def done(gullet, piece):
    """Do what a piece that can't be exchanged asks for; what is told of it."""
    meaning = gullet.meaning(piece)
    if meaning is None:
        raise Fault("unknown")
    if meaning[0] == "deed":
        do_deed(gullet, meaning[1])
    elif do_sign(gullet, meaning[1]):
        return ("put", meaning[1])
    return ("done", piece)
