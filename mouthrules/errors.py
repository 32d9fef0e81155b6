"""The errors of all stages: each is made of its values, and these are its fields."""


class MouthError(ValueError):
    """Stands above the refusals of things that are not of the kind wanted."""


class NoKinds(MouthError):
    """A thing that is no table of kinds."""

    def __init__(self, thing):
        MouthError.__init__(self, "this is no table of kinds")
        self.thing = thing


class NoSign(MouthError):
    """A thing that is no sign."""

    def __init__(self, sign):
        MouthError.__init__(self, "this is no sign")
        self.sign = sign


class NoKey(MouthError):
    """A thing that is no key of a book."""

    def __init__(self, key):
        MouthError.__init__(self, "this is no key of a book")
        self.key = key


class NoWorth(MouthError):
    """A thing that can't be the worth of its key, or can't be left for later."""

    def __init__(self, thing):
        MouthError.__init__(self, "this is no worth there")
        self.thing = thing


class NoText(MouthError):
    """A thing that is no text."""

    def __init__(self, thing):
        MouthError.__init__(self, "this is no text")
        self.thing = thing


class NoTexts(MouthError):
    """A thing that is no dict from names to texts."""

    def __init__(self, thing):
        MouthError.__init__(self, "this is no dict from names to texts")
        self.thing = thing


class NoMost(MouthError):
    """A thing that is no number of rounds that may be asked for."""

    def __init__(self, most):
        MouthError.__init__(self, "this is no number of rounds")
        self.most = most


class NoWriting(MouthError):
    """A row whose piece of that number can't be written."""

    def __init__(self, number):
        MouthError.__init__(self, "a piece of the row can't be written")
        self.number = number


class NoRow(MouthError):
    """A row told to the desk that is none of its rows; made of a text."""


class Fault(RuntimeError):
    """What goes wrong in what is read, by a word."""

    def __init__(self, word):
        RuntimeError.__init__(self, "what was read is at fault")
        self.word = word


class Ends(RuntimeError):
    """An escape behind which the text ends; made of a text."""


class Shut(RuntimeError):
    """Feeding of what is shut; made of a text."""


class Busy(RuntimeError):
    """A deed asked of a bench that is reading; made of a text."""


class NoName(KeyError):
    """A name that is none, or by which nothing is kept."""

    def __init__(self, name):
        KeyError.__init__(self, "nothing is kept by this name")
        self.name = name


class Bare(LookupError):
    """Nothing is left that could be taken back; made of a text."""


class TooMany(OverflowError):
    """One more than may be kept."""

    def __init__(self, many):
        OverflowError.__init__(self, "these are too many")
        self.many = many
