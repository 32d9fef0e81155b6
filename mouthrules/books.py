"""Books: a table of kinds, meanings, boxes, and groups that give back what was set in them."""

from mouthrules.errors import Fault, NoKey, NoWorth
from mouthrules.pieces import first_kinds, is_kind, is_name, is_piece, is_row, is_sign, is_whole, kind_in
from mouthrules.rules import hands_among, is_rule

EXCHANGED = ("behind", "name", "iflike", "ifsame", "ifkind", "ifless", "else", "fi", "figures", "row", "text")

DEEDS = ("behind", "name", "iflike", "ifsame", "ifkind", "ifless", "else", "fi", "figures", "row", "text",
         "rule", "through", "like", "kind", "set", "add", "keep", "all", "open", "shut", "later", "skip", "stay",
         "box", "endname")

WORDS_OF_NO_SIGN_PIECE = ("name", "active", "hand")

MOST_BOX = 255

# 10 ** 12: a number box's worth is below this and above its contrary.
GREAT = 1000000000000

# The worth of a key of each word where a book keeps none; kinds are kept by themselves. A row is kept as a tuple.
BARE_WORTHS = {"name": None, "active": None, "box": 0, "row": ()}


def is_box(thing):
    """Whether this is the number of a box."""
    return is_whole(thing) and 0 <= thing <= MOST_BOX


def is_key(thing):
    """Whether this is a key of a book."""
    if not isinstance(thing, tuple) or len(thing) != 2:
        return False
    word, part = thing
    if not isinstance(word, str):
        return False
    if word in ("kind", "active"):
        return is_sign(part)
    if word == "name":
        return is_name(part)
    return word in ("box", "row") and is_box(part)


def is_sign_piece(thing):
    """Whether this is a piece that is no name, no active sign and no hand."""
    return is_piece(thing) and thing[0] not in WORDS_OF_NO_SIGN_PIECE


def is_meaning(thing):
    """Whether this is a meaning."""
    if not isinstance(thing, tuple) or len(thing) < 2 or not isinstance(thing[0], str):
        return False
    word, *parts = thing
    if word == "rule":
        return is_rule(tuple(parts))
    if len(parts) != 1:
        return False
    if word == "deed":
        return isinstance(parts[0], str) and parts[0] in DEEDS
    return word == "piece" and is_sign_piece(parts[0])


def is_number_worth(thing):
    """Whether this can be in a number box."""
    return is_whole(thing) and -GREAT < thing < GREAT


def is_row_worth(thing):
    """Whether this can be in a row box."""
    return is_row(thing) and not hands_among(thing)


def is_worth(key, thing):
    """Whether this can be the worth of a key."""
    word = key[0]
    if word == "kind":
        return is_kind(thing)
    if word == "box":
        return is_number_worth(thing)
    if word == "row":
        return is_row_worth(thing)
    return thing is None or is_meaning(thing)


def first_meanings():
    """A new dict: what a book keeps at first beside kinds."""
    return {("name", word): ("deed", word) for word in DEEDS}


class Group:
    """An open group: what began it, what it gives back by keys, and what is left for its end.

    It is never changed once it is made, so twins of a book share it.
    """

    def __init__(self, word, olds, left):
        self.word = word
        self.olds = olds
        self.left = left

    def giving_back(self, key, worth):
        """This group, where it gives back something of that key; else one that gives back this, too."""
        if key in self.olds:
            return self
        olds = {old: self.olds[old] for old in self.olds}
        olds[key] = worth
        return Group(self.word, olds, self.left)

    def giving_nothing(self, key):
        """A group like this one that gives back nothing of that key."""
        if key not in self.olds:
            return self
        return Group(self.word, {old: self.olds[old] for old in self.olds if old != key}, self.left)

    def leaving(self, piece):
        """A group like this one, for whose end that piece is left, too."""
        return Group(self.word, self.olds, [*self.left, piece])

    def __eq__(self, other):
        return (isinstance(other, Group) and self.word == other.word and self.olds == other.olds
                and self.left == other.left)


class Book:
    """Keeps worths by keys; those that are bare are not kept, so that books alike keep the same."""

    def __init__(self):
        self.table = first_kinds()
        self.kept = first_meanings()
        self.groups = []

    def worth(self, key):
        """What is set at a key."""
        if not is_key(key):
            raise NoKey(key)
        worth = self.kept_at(key)
        return list(worth) if key[0] == "row" else worth

    def put(self, key, worth, *, for_all=False):
        """Set a worth at a key, for the last open group or for all."""
        if not is_key(key):
            raise NoKey(key)
        if not is_worth(key, worth):
            raise NoWorth(worth)
        if for_all:
            self.forget(key)
        elif self.groups:
            self.groups[-1] = self.groups[-1].giving_back(key, self.kept_at(key))
        self.keep(key, tuple(worth) if key[0] == "row" else worth)

    def begin(self, word):
        """Begin a group by a word, signs or deeds."""
        self.groups.append(Group(word, {}, []))

    def end(self, word):
        """End the last open group, which that word must have begun; what was left for later is told."""
        if not self.groups or self.groups[-1].word != word:
            raise Fault("groups")
        group = self.groups.pop()
        for key in group.olds:
            self.keep(key, group.olds[key])
        return list(group.left)

    def leave(self, piece):
        """Leave a piece for the end of the last open group."""
        if not is_piece(piece) or piece[0] == "hand":
            raise NoWorth(piece)
        if not self.groups:
            raise Fault("groups")
        self.groups[-1] = self.groups[-1].leaving(piece)

    def kinds(self):
        """The table of kinds, without signs that are other."""
        return dict(self.table)

    def depth(self):
        """How many groups are open."""
        return len(self.groups)

    def twin(self):
        """A book like this one, that goes on by itself."""
        twin = Book()
        twin.table = dict(self.table)
        twin.kept = {key: self.kept[key] for key in self.kept}
        twin.groups = list(self.groups)
        return twin

    def __eq__(self, other):
        return (isinstance(other, Book) and self.table == other.table and self.kept == other.kept
                and self.groups == other.groups)

    def kept_at(self, key):
        """The worth of a key, at which no look is taken, in the form in which it is kept."""
        word, part = key
        if word == "kind":
            return kind_in(self.table, part)
        return self.kept.get(key, BARE_WORTHS[word])

    def keep(self, key, worth):
        """Make this the worth of a key, whatever groups give back."""
        word, part = key
        if word == "kind" and worth == "other":
            self.table.pop(part, None)
        elif word == "kind":
            self.table[part] = worth
        elif worth == BARE_WORTHS[word]:
            self.kept.pop(key, None)
        else:
            self.kept[key] = worth

    def forget(self, key):
        """No open group gives that key back any more."""
        self.groups = [group.giving_nothing(key) for group in self.groups]
