"""The desk, which keeps benches by names and is told rows."""

from mouthrules.asked import is_title
from mouthrules.bench import Bench
from mouthrules.errors import NoName, NoRow, TooMany
from mouthrules.pieces import DIGITS, is_name, is_sign

MOST_BENCHES = 8

MOST_FIGURES = 4

# By the first word of a row what the words behind it are.
FORMS = {
    "new": ("name",),
    "drop": ("name",),
    "names": (),
    "read": ("name", "number", "text"),
    "put": ("name", "name", "text"),
    "back": ("name",),
    "mean": ("name", "word"),
    "box": ("name", "number"),
    "kind": ("name", "sign"),
}


def is_number(word):
    """Whether a word is a number as rows have it."""
    if not 1 <= len(word) <= MOST_FIGURES or word[0] == "0" and word != "0":
        return False
    return all([sign in DIGITS for sign in word])


def is_of(form, word):
    """Whether a word, which is without a blank but where it is a text, is of that form."""
    if form == "name":
        return is_title(word)
    if form == "number":
        return is_number(word)
    if form == "word":
        return is_name(word)
    return form == "text" or is_sign(word)


def words_of(row):
    """The words of a row; NoRow where it is none."""
    if not isinstance(row, str) or "\n" in row:
        raise NoRow("a row is a text without line feeds")
    first = row.partition(" ")[0]
    if first not in FORMS:
        raise NoRow("a row begins with one of the words that are known")
    forms = FORMS[first]
    # A text has all that is behind the blank ahead of it, blanks too.
    words = row.split(" ", len(forms)) if "text" in forms else row.split(" ")
    if len(words) != len(forms) + 1:
        raise NoRow("a row has just as many words as its first one asks for")
    if not all([is_of(form, word) for form, word in zip(forms, words[1:])]):
        raise NoRow("a word of the row is none that may stand there")
    return words


def text_in(word):
    """The text that a row writes."""
    return word.replace(";;", "\n")


def put_text(bench, title, text):
    """Put a text on a bench."""
    bench.put(title, text_in(text))
    return "ok"


def take_back(bench):
    """Take back a bench's last reading."""
    bench.back()
    return "ok"


def read_text(bench, most, text):
    """Let a bench read a text."""
    told = bench.read(text_in(text), most=int(most))
    word, row = told[0], told[1]
    answer = word if word in ("over", "more") else f"fault {word}"
    return answer + " " + "".join([piece[1] for piece in row]) if row else answer


def mean_of(bench, word):
    """The meaning of a name on a bench."""
    meaning = bench.book().worth(("name", word))
    if meaning is None:
        return "none"
    if meaning[0] == "deed":
        return f"deed {meaning[1]}"
    if meaning[0] == "rule":
        return f"rule {len(meaning[1])} {len(meaning[2])}"
    return f"piece {meaning[1][1]}"


def box_of(bench, number):
    """The worth of a number box on a bench."""
    return str(bench.book().worth(("box", int(number))))


def kind_on(bench, sign):
    """The kind of a sign on a bench."""
    return bench.book().worth(("kind", sign))


# What is asked of the bench that a row names, by the words behind its name.
ASKED = {
    "read": read_text,
    "put": put_text,
    "back": take_back,
    "mean": mean_of,
    "box": box_of,
    "kind": kind_on,
}


class Desk:
    """Keeps benches by names."""

    def __init__(self):
        self.benches = {}

    def say(self, row):
        """Do what a row tells; the answer."""
        first, *words = words_of(row)
        if first == "names":
            return " ".join(sorted(list(self.benches))) if self.benches else "-"
        name, *more = words
        if first == "new":
            return self.make(name)
        if name not in self.benches:
            raise NoName(name)
        if first == "drop":
            del self.benches[name]
            return "ok"
        ask = ASKED[first]
        return ask(self.benches[name], *more)

    def make(self, name):
        """Keep a new bench by a name."""
        if name not in self.benches and len(self.benches) == MOST_BENCHES:
            raise TooMany(MOST_BENCHES + 1)
        self.benches[name] = Bench()
        return "ok"

    def __len__(self):
        return len(self.benches)
