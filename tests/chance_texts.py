"""Texts by chance, so made that most of what they ask for is met, some of it isn't."""

from mouthrules.books import DEEDS, Book

NAMES = ("x", "y", "z", "so", "endname", "box", "skip", "stay", "fi", "else", "row", "later", "behind", "shut", "open")


class Texts:
    def __init__(self, chance):
        self.chance = chance

    def one_of(self, *told):
        return self.chance.choice(told)

    def name(self):
        return self.one_of("\\x", "\\y ", "\\z", "~", "\\so ", "\\x ", "\\?", "\\ab")

    def piece(self, depth):
        many = self.chance.random()
        if many < 0.4:
            return self.one_of("a", "b", "c", "1", ".", " ", "-", "=", "a ", "!r\n", "?")
        if many < 0.55:
            return self.name()
        if many < 0.6:
            return "\\" + self.one_of(*NAMES) + self.one_of(" ", "")
        if depth <= 0:
            return "a"
        return self.deed(depth - 1)

    def some(self, depth, most=3):
        return "".join(self.piece(depth) for _ in range(self.chance.randint(0, most)))

    def number(self, depth):
        lead = self.one_of("", "", "", "-", " ", "- -")
        if depth > 0 and self.chance.random() < 0.4:
            return lead + self.one_of("\\box ", "\\figures", "\\x ", "\\y ", "\\row ") + self.number(depth - 1)
        return lead + str(self.chance.choice((0, 1, 2, 3, 12, 255, 0, 1, 2, 3, 12, 256))) + \
            self.one_of("", " ", " ", " ", "", "\\x ")

    def group(self, depth):
        return self.one_of("", " ") + "{" + self.some(depth) + "}"

    def ask(self, depth):
        word = self.one_of("iflike", "ifsame", "ifkind", "ifless")
        if word == "ifless":
            asked = self.number(depth) + self.one_of("", " ") + self.one_of("<", "=", ">", "?") + self.number(depth)
        else:
            asked = self.piece(depth) + self.piece(depth)
        middle = self.one_of("", "\\else " + self.some(depth), "\\else " + self.some(depth))
        return "\\" + word + " " + asked + self.some(depth) + middle + self.one_of("\\fi ", "\\fi ", "\\fi ", "\\fi", "")

    def marks(self):
        return self.one_of("", "", "#1", "#1.", "#1#2", "a#1", "#1 a#2", "#1b#2..", "a", "#2", "#1#")

    def rule(self, depth):
        body = self.some(depth) + self.one_of("", "#1", "#1#1", "#2", "##", "{#1}", "\\x", "\\figures1", "\\row1 ")
        return self.one_of("\\rule", "\\through") + self.one_of(" ", "") + self.name() + self.marks() + "{" + body + \
            self.some(depth) + "}"

    def setting(self, depth):
        word = self.one_of("rule", "rule", "like", "kind", "set", "add", "keep")
        if word == "rule":
            return self.rule(depth)
        if word == "like":
            return "\\like" + self.name() + self.one_of("", "=", " = ", "==") + self.piece(0)
        if word == "kind":
            sign = self.one_of("a", "b", "?", "\\?", "1", " ", "~", "\\~", ".", "ab", "\\{", "\\!", "\\\\")
            kind = self.one_of("letter", "other", "gone", "remark", "blank", "active", "open", "shut", "escape", "mark", "x")
            return "\\kind {" + sign + "}{" + kind + "}"
        if word == "keep":
            return "\\keep" + self.number(depth) + "=" + self.group(depth)
        return "\\" + word + self.number(depth) + self.one_of("=", " =", "= ") + self.number(depth)

    def deed(self, depth):
        sort = self.chance.randint(0, 11)
        if sort <= 2:
            return self.setting(depth)
        if sort <= 4:
            return self.ask(depth)
        if sort == 5:
            return self.one_of("{", "\\open ") + self.some(depth) + self.one_of("}", "}", "\\shut ", "\\shut ")
        if sort == 6:
            return "\\name " + self.some(depth) + self.one_of("ab", "x", "so", "q1", "z") + "\\endname" + self.one_of("", " ")
        if sort == 7:
            return "\\behind" + self.name() + self.name()
        if sort == 8:
            return self.one_of("\\figures", "\\row") + self.number(depth)
        if sort == 9:
            return "\\text" + self.one_of("", " ") + self.one_of("{a}", "{b}", "{abc}", "{d}")
        if sort == 10:
            return "\\all" + self.one_of("", " ", "\\all") + self.setting(depth)
        return "{\\later" + self.piece(0) + self.some(depth) + "}"

    def book(self):
        """A book by which most names mean something."""
        a, hand, dot = ("letter", "a"), ("hand", 1), ("other", ".")
        meanings = [("piece", a), ("piece", ("open", "{")), ("piece", ("shut", "}")), ("piece", ("blank", " ")),
                    ("rule", (), ()), ("rule", (), (("other", "1"),)), ("rule", (hand,), (hand, dot, hand)),
                    ("rule", (hand, dot), (hand,)), ("rule", (), (("name", "x"), a)), ("rule", (), (("name", "fi"),)),
                    ("rule", (), (("name", "else"),)), ("rule", (), (("name", "y"), ("name", "z"))),
                    ("rule", (hand, ("hand", 2)), (("hand", 2), hand)), ("rule", (), (("name", "iflike"), a, a)), None]
        meanings += [("deed", word) for word in DEEDS]
        book = Book()
        for word, signs in (("name", "x"), ("name", "y"), ("name", "z"), ("active", "~"), ("name", "so"), ("name", "?"),
                            ("name", "ab"), ("active", "?")):
            book.put((word, signs), self.chance.choice(meanings[:14] if self.chance.random() < 0.7 else meanings))
        for number in (0, 1, 2, 3, 12, 255):
            book.put(("box", number), self.chance.choice((0, 1, 2, 12, -1, 255, 10 ** 12 - 1)))
            book.put(("row", number), self.chance.choice(([], [a], [a, ("name", "x")], [("other", "1")], [("open", "{")])))
        return book

    def text(self):
        lead = self.one_of("", "", "\\rule\\x{}", "\\rule\\x#1{#1.}", "\\like\\y=a\\like ~=\\box", "\\rule\\x{1}\\rule~{2}",
                           "\\rule\\y#1.{#1#1}\\rule\\z{\\x\\x}", "\\keep1={a\\x b}\\set2=3 \\set 3=-1 ",
                           "\\like~=\\fi\\like\\z=\\else\\rule\\x{\\fi}", "\\like\\?=\\iflike")
        return lead + "".join(self.piece(3) for _ in range(self.chance.randint(1, 6)))

    def texts(self):
        return {"a": self.some(1), "b": self.some(2), "abc": self.text()}
