"""Points 13 to 19 and 21 told once more, by calls within calls and by trying, to hold the program against."""

from mouthrules.books import DEEDS, EXCHANGED, Book
from mouthrules.errors import Ends, Fault
from mouthrules.mouth import Mouth
from mouthrules.pieces import KINDS

BLANK = ("blank", " ")
ASKS = ("iflike", "ifsame", "ifkind", "ifless")
SETTING = ("rule", "through", "like", "kind", "set", "add", "keep")


class Naive:
    def __init__(self, items, book, texts):
        self.items = items          # [word, mouth or row], the last one is read first
        self.book = book
        self.texts = texts
        self.asks = []              # each a list of its one word
        self.many = 0
        self.leans = set()
        self.put = []

    # What waits.
    def raw(self):
        while self.items:
            word, thing = self.items[-1]
            if word == "row":
                if thing:
                    return thing.pop(0)
            else:
                at = thing.place()
                try:
                    piece = thing.following(self.book.kinds())
                except Ends:
                    raise Fault("ends") from None
                self.lean_on(thing.text(), at, thing.place(), piece)
                if piece is not None or word == "first":
                    return piece
            self.items.pop()
        return None

    def lean_on(self, text, at, place, piece):
        looked = text[at:place]
        if piece == BLANK or piece and piece[0] == "name" and self.book.worth(("kind", piece[1][0])) == "letter":
            looked = text[at:place + 1]
        self.leans.update(("kind", sign) for sign in looked)

    def wanted(self):
        piece = self.raw()
        if piece is None:
            raise Fault("ends")
        return piece

    def put_item(self, word, thing):
        self.items.append([word, thing])
        if sum(len(thing) for word, thing in self.items if word == "row") > 2000:
            raise Fault("long")
        if len([word for word, thing in self.items if word != "row"]) > 30:
            raise Fault("long")

    def put_row(self, row):
        self.put_item("row", list(row))

    # Meanings.
    def meaning(self, piece):
        if piece[0] in ("name", "active"):
            self.leans.add(piece)
            return self.book.worth(piece)
        return ("piece", piece)

    def means(self, piece, *words):
        return self.meaning(piece) in [("deed", word) for word in words]

    def can_be(self, piece):
        if self.means(piece, "else", "fi") and self.asks and self.asks[-1] == ["asked"]:
            return False
        meaning = self.meaning(piece)
        return meaning is not None and (meaning[0] == "rule" or self.means(piece, *EXCHANGED))

    def next_settled(self):
        """The next piece, exchanged as long as can be; None where none is there."""
        piece = self.raw()
        while piece is not None and self.can_be(piece):
            self.exchange(piece)
            piece = self.raw()
        return piece

    def settled(self):
        piece = self.next_settled()
        if piece is None:
            raise Fault("ends")
        return piece

    # What is asked for by pieces.
    def group(self, word):
        piece = self.wanted()
        while piece == BLANK:
            piece = self.wanted()
        if piece[0] != "open":
            raise Fault(word)
        return self.rest_of_group()[:-1]

    def rest_of_group(self):
        row, depth = [], 1
        while depth:
            piece = self.wanted()
            depth += {"open": 1, "shut": -1}.get(piece[0], 0)
            row.append(piece)
        return row

    def number(self):
        turn = 1
        piece = self.settled()
        while piece in (BLANK, ("other", "-")):
            if piece != BLANK:
                turn = -turn
            piece = self.settled()
        if self.means(piece, "box"):
            number = self.box_number()
            self.leans.add(("box", number))
            return turn * self.book.worth(("box", number))
        if piece[0] != "other" or piece[1] not in "0123456789":
            raise Fault("number")
        number = 0
        while piece is not None and piece[0] == "other" and piece[1] in "0123456789":
            number = number * 10 + int(piece[1])
            if number >= 10 ** 12:
                raise Fault("great")
            piece = self.next_settled()
        if piece is not None and piece != BLANK:
            self.put_row([piece])
        return turn * number

    def box_number(self):
        number = self.number()
        if not 0 <= number <= 255:
            raise Fault("number")
        return number

    def one_of(self, signs):
        piece = self.settled()
        while piece == BLANK:
            piece = self.settled()
        if piece[0] != "other" or piece[1] not in signs:
            raise Fault("number")
        return piece[1]

    def hands(self, marks):
        marks, hands = list(marks), []
        while marks:
            mark = marks.pop(0)
            if mark[0] != "hand":
                if self.wanted() != mark:
                    raise Fault("use")
                continue
            end = []
            while marks and marks[0][0] != "hand":
                end.append(marks.pop(0))
            hands.append(self.hand_to(end) if end else self.bare())
        return hands

    def bare(self):
        piece = self.wanted()
        while piece == BLANK:
            piece = self.wanted()
        if piece[0] == "shut":
            raise Fault("groups")
        return self.rest_of_group()[:-1] if piece[0] == "open" else [piece]

    def hand_to(self, end):
        parts = []
        while parts[-len(end):] != [[piece] for piece in end]:
            piece = self.wanted()
            if piece[0] == "shut":
                raise Fault("groups")
            parts.append([piece, *self.rest_of_group()] if piece[0] == "open" else [piece])
        parts = parts[:-len(end)]
        if len(parts) == 1 and parts[0][0][0] == "open":
            return parts[0][1:-1]
        return [piece for part in parts for piece in part]

    # Exchanges.
    def exchange(self, piece):
        self.many += 1
        if self.many > 300:
            raise Fault("long")
        meaning = self.meaning(piece)
        if meaning[0] == "rule":
            hands = self.hands(meaning[1])
            row = []
            for piece in meaning[2]:
                row.extend(hands[piece[1] - 1] if piece[0] == "hand" else [piece])
            self.put_row(row)
        else:
            getattr(self, "do_" + meaning[1])()

    def do_behind(self):
        first, second = self.wanted(), self.wanted()
        if self.can_be(second):
            self.exchange(second)
        else:
            self.put_row([second])
        self.put_row([first])

    def do_name(self):
        signs = ""
        while True:
            piece = self.settled()
            if self.means(piece, "endname"):
                break
            if piece[0] not in ("letter", "other", "blank"):
                raise Fault("name")
            signs += piece[1]
            if len(signs) > 30:
                raise Fault("name")
        if not signs:
            raise Fault("name")
        if self.meaning(("name", signs)) is None:
            self.book.put(("name", signs), ("deed", "skip"))
        self.put_row([("name", signs)])

    def do_figures(self):
        self.put_row([("other", sign) for sign in str(self.number())])

    def do_row(self):
        number = self.box_number()
        self.leans.add(("row", number))
        self.put_row(self.book.worth(("row", number)))

    def do_text(self):
        group = self.group("text")
        name = "".join(str(piece[1]) for piece in group)
        if any(piece[0] != "letter" for piece in group) or name not in self.texts:
            raise Fault("text")
        self.leans.add(("text", name))
        self.put_item("text", Mouth(self.texts[name]))

    def ask(self, asked):
        ask = ["asked"]
        self.asks.append(ask)
        if asked():
            ask[0] = "so"
        else:
            self.pass_up_to_end_of(ask, True)

    def do_iflike(self):
        self.ask(lambda: self.meaning(self.wanted()) == self.meaning(self.wanted()))

    def sign_and_kind(self, piece):
        if piece[0] == "hand":
            return None, "name"
        if piece[0] in ("name", "active"):
            meaning = self.meaning(piece)
            if meaning is None or meaning[0] != "piece":
                return None, "name"
            piece = meaning[1]
        return piece[1], piece[0]

    def do_ifsame(self):
        self.ask(lambda: self.sign_and_kind(self.settled())[0] == self.sign_and_kind(self.settled())[0])

    def do_ifkind(self):
        self.ask(lambda: self.sign_and_kind(self.settled())[1] == self.sign_and_kind(self.settled())[1])

    def do_ifless(self):
        def asked():
            one, sign, other = self.number(), self.one_of("<=>"), self.number()
            return {"<": one < other, "=": one == other, ">": one > other}[sign]
        self.ask(asked)

    def pass_up_to_end_of(self, ask, at_else_too):
        begun = self.asks[[one is ask for one in self.asks].index(True):]
        while True:
            piece = self.wanted()
            if self.means(piece, *ASKS):
                begun = begun + [["within"]]
            elif self.means(piece, "else") and len(begun) == 1:
                if not at_else_too:
                    raise Fault("ask")
                word = "else"
                break
            elif self.means(piece, "fi"):
                begun = begun[:-1]
                if not begun:
                    word = None
                    break
        del self.asks[[one is ask for one in self.asks].index(True):]
        if word:
            self.asks.append([word])

    def do_else(self):
        if not self.asks or self.asks[-1] != ["so"]:
            raise Fault("ask")
        self.pass_up_to_end_of(self.asks[-1], False)

    def do_fi(self):
        if not self.asks:
            raise Fault("ask")
        self.asks.pop()

    # What is done.
    def done(self, piece):
        meaning = self.meaning(piece)
        if meaning is None:
            raise Fault("unknown")
        if meaning[0] == "piece":
            return self.sign(meaning[1], piece)
        word = meaning[1]
        if word in SETTING:
            self.set(word, False)
        elif word == "all":
            while word == "all":
                word = (self.meaning(self.settled()) or ("none", ""))[1]
            if word not in SETTING:
                raise Fault("all")
            self.set(word, True)
        elif word == "open":
            self.book.begin("deeds")
        elif word == "shut":
            self.put_row(self.book.end("deeds"))
        elif word == "later":
            self.book.leave(self.wanted())
        elif word == "endname":
            raise Fault("name")
        elif word == "box":
            raise Fault("number")
        else:
            assert word in ("skip", "stay") and word in DEEDS
        return ("done", piece)

    def sign(self, meant, piece):
        if meant[0] == "open":
            self.book.begin("signs")
        elif meant[0] == "shut":
            self.put_row(self.book.end("signs"))
        elif meant[0] in ("mark", "hand"):
            raise Fault("mark")
        else:
            self.put.append(meant)
            return ("put", meant)
        return ("done", piece)

    def target(self):
        piece = self.wanted()
        while piece == BLANK:
            piece = self.wanted()
        return piece

    def set(self, word, for_all):
        if word in ("rule", "through", "like"):
            key = self.target()
            if key[0] not in ("name", "active"):
                raise Fault("marks")
            if word == "like":
                piece = self.target()
                worth = self.meaning(self.target() if piece == ("other", "=") else piece)
            else:
                worth = self.rule(word)
        elif word == "kind":
            one, other = self.group("kind"), self.group("kind")
            kind = "".join(str(piece[1]) for piece in other if piece[0] == "letter")
            if len(one) != 1 or len(kind) != len(other) or kind not in KINDS:
                raise Fault("kind")
            if one[0][0] == "hand" or len(one[0][1]) != 1:
                raise Fault("kind")
            key, worth = ("kind", one[0][1]), kind
        else:
            number = self.box_number()
            self.one_of("=")
            key = ("row" if word == "keep" else "box", number)
            worth = self.group("number") if word == "keep" else self.number()
            if word == "add":
                worth += self.book.worth(key)
                if abs(worth) >= 10 ** 12:
                    raise Fault("great")
        self.book.put(key, worth, for_all=for_all)

    def rule(self, word):
        marks, body, hands = [], [], 0
        while True:
            piece = self.wanted()
            if piece[0] == "open":
                break
            if piece[0] == "shut":
                raise Fault("groups")
            if piece[0] == "mark":
                hands += 1
                if self.wanted() != ("other", str(hands)):
                    raise Fault("marks")
                piece = ("hand", hands)
            if len(marks) == 30:
                raise Fault("marks")
            marks.append(piece)
        depth = 1
        while True:
            piece = self.wanted()
            depth += {"open": 1, "shut": -1}.get(piece[0], 0)
            if not depth:
                break
            if piece[0] == "mark":
                piece = self.wanted()
                if piece[0] != "mark":
                    if piece[0] != "other" or piece[1] not in "123456789"[:hands]:
                        raise Fault("marks")
                    piece = ("hand", int(piece[1]))
            body.append(piece)
        if word == "through":
            inner = Naive([["row", body]], self.book.twin(), self.texts)
            inner.many = self.many
            body = inner.gone()
        return ("rule", tuple(marks), tuple(body))

    def gone(self):
        row = []
        while True:
            piece = self.raw()
            if piece is None:
                break
            if self.means(piece, "stay"):
                row.append(self.wanted())
            elif self.means(piece, "row"):
                self.many += 1
                if self.many > 300:
                    raise Fault("long")
                number = self.box_number()
                self.leans.add(("row", number))
                row.extend(self.book.worth(("row", number)))
            elif self.can_be(piece):
                self.exchange(piece)
            else:
                row.append(piece)
        if self.asks:
            raise Fault("ask")
        depth = 0
        for piece in row:
            depth += {"open": 1, "shut": -1}.get(piece[0], 0)
            if depth < 0:
                break
        if depth:
            raise Fault("groups")
        return row

    def round(self):
        piece = self.raw()
        if piece is None:
            if self.asks:
                raise Fault("ask")
            if self.book.depth():
                raise Fault("groups")
            return ("over",)
        if self.can_be(piece):
            self.exchange(piece)
            return ("exchanged", piece)
        return self.done(piece)

    def twin(self):
        twin = Naive([[word, list(thing) if word == "row" else thing.twin()] for word, thing in self.items],
                     self.book.twin(), self.texts)
        twin.asks = [list(ask) for ask in self.asks]
        twin.put = list(self.put)
        return twin

    def place(self):
        return tuple(thing.place() for word, thing in self.items if word != "row")


def naive_plain(text, book=None, texts=None, most=2000):
    """What plain tells, and what is told of each round, the last one, of the end, too."""
    now = Naive([["first", Mouth(text)]], Book() if book is None else book.twin(), texts or {})
    rounds = []
    while len(rounds) < most:
        trial = now.twin()
        try:
            told = trial.round()
        except Fault as fault:
            return (fault.word, now.put, now.place(), len(rounds), now.book), [*rounds, ("fault", fault.word)]
        now = trial
        if told == ("over",):
            return ("over", now.put, now.place(), len(rounds), now.book), [*rounds, told]
        rounds.append(told)
    return ("more", now.put, now.place(), len(rounds), now.book), rounds


def naive_gone_through(row, book=None, texts=None):
    """What gone_through tells, or the word of its fault."""
    reader = Naive([["row", list(row)]], Book() if book is None else book.twin(), texts or {})
    try:
        told = reader.gone()
    except Fault as fault:
        return fault.word
    return told, sorted(reader.leans)


def naive_state(now):
    """All that what is to come hangs on: what waits, rows on one another as one, the book and the asks."""
    waiting = []
    for word, thing in now.items:
        if word != "row":
            waiting.append((thing.text(), thing.place()))
            waiting.append([])
        elif waiting:
            waiting[-1] = thing + waiting[-1]
    return waiting, now.book, now.asks


def naive_ring(text, most, book=None, texts=None):
    """What point 20 says, by holding each state against all ahead of it."""
    now, states = Naive([["first", Mouth(text)]], Book() if book is None else book.twin(), texts or {}), []
    for rounds in range(most + 1):
        state = naive_state(now)
        for k, one in enumerate(states):
            if one == state:
                return k, rounds
        states.append(state)
        now = now.twin()
        try:
            if now.round() == ("over",):
                return None
        except Fault:
            return None
    return None
