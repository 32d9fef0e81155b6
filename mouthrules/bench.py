"""The bench, which keeps a book and texts over many readings."""

from mouthrules.asked import is_title, look_at_most, look_at_text
from mouthrules.books import Book
from mouthrules.errors import Bare, Busy, NoName
from mouthrules.machine import Machine
from mouthrules.plain import MOST


class Bench:
    """Keeps a book, texts, the books from ahead of readings that were kept, and a log."""

    def __init__(self):
        self.own_book = Book()
        self.own_texts = {}
        # Books that are kept are never changed, so twins share them.
        self.earlier = []
        self.lines = []
        self.is_busy = False

    def read(self, text, *, most=MOST, watcher=None):
        """Read a text; told is a word, the told row, the places and the rounds."""
        self.look_whether_busy()
        look_at_text(text)
        look_at_most(most)
        machine = Machine(text, book=self.own_book, texts=self.own_texts)
        self.is_busy = True
        self.lines.append("begin")
        try:
            word = watched_run(machine, most, watcher)
        finally:
            self.is_busy = False
            self.lines.append("end")
        if word == "over":
            self.earlier.append(self.own_book)
            self.own_book = machine.book()
        return word, machine.row(), machine.place(), len(machine)

    def put(self, name, text):
        """Keep a text by a name."""
        self.look_whether_busy()
        if not is_title(name):
            raise NoName(name)
        look_at_text(text)
        self.own_texts[name] = text

    def drop(self, name):
        """Keep the text of a name no longer."""
        self.look_whether_busy()
        if not is_title(name) or name not in self.own_texts:
            raise NoName(name)
        del self.own_texts[name]

    def back(self):
        """Have the book from ahead of the last reading that was kept."""
        self.look_whether_busy()
        if not self.earlier:
            raise Bare("no reading is kept that could be taken back")
        self.own_book = self.earlier.pop()

    def look_whether_busy(self):
        """Busy where it is reading."""
        if self.is_busy:
            raise Busy("the bench is reading")

    def book(self):
        """A twin of its book."""
        return self.own_book.twin()

    def texts(self):
        """The texts by their names."""
        return dict(self.own_texts)

    def log(self):
        """What began and ended, in order."""
        return list(self.lines)

    def twin(self):
        """A bench like this one, that goes on by itself and isn't busy."""
        twin = Bench()
        twin.own_book = self.own_book
        twin.own_texts = dict(self.own_texts)
        twin.earlier = list(self.earlier)
        twin.lines = list(self.lines)
        return twin

    def __eq__(self, other):
        return isinstance(other, Bench) and self.own_book == other.own_book and self.own_texts == other.own_texts

    def __len__(self):
        return len(self.earlier)


def watched_run(machine, most, watcher):
    """Run a machine by at most so many rounds, and tell a watcher of those that are none of the end; the word."""
    for number in range(most):
        told = machine.round()
        if told[0] in ("over", "fault"):
            break
        if watcher is not None:
            watcher(told)
    return machine.run(most=0)
