"""What parts two books, and their texts, in what a row that was gone through leaned on."""


def worth_by(book, texts, key):
    """What stands at a key: in a book, or among texts, where None is there for a text that isn't."""
    word, part = key
    return texts.get(part) if word == "text" else book.worth(key)


def first_parted(one, other, leans, *, texts=None, others=None):
    """The first of these keys at which two books, or their texts, are unlike; None where they are alike at all."""
    own_texts = {} if texts is None else texts
    other_texts = {} if others is None else others
    for key in leans:
        if worth_by(one, own_texts, key) != worth_by(other, other_texts, key):
            return key
    return None
