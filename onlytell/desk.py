"""A desk, at which a shop is asked by lines of words."""

from onlytell.beside import is_true
from onlytell.books import Book
from onlytell.checking import check_deed_and_input
from onlytell.errors import BadLine
from onlytell.forms import GONE, is_name
from onlytell.harm import harm
from onlytell.lines import is_number
from onlytell.shop import Shop
from onlytell.stamps import reads

NOTHING = "-"


class Desk:
    """A Shop of the book with this text, which is asked by lines; BadBook, Unnamed, Upward, BadStore, BadMemory."""

    def __init__(self, text, worths, *, memory=()):
        self.shop = Shop(Book(text), worths, memory=memory)

    def say(self, line):
        """The answer to a line; BadLine, NoDeed, BadInput, BadMemory, TooMany."""
        words = line.split(" ") if isinstance(line, str) else []
        if words == ["show"] or words == ["run"]:
            self.shop.switch(words == ["show"])
            return "ok"
        if words == ["worths"]:
            return " ".join([written_worth(worth) for worth in self.shop.worths])
        if words == ["left"]:
            return or_nothing("; ".join([f"{key} {written_worth(worth)}" for key, worth in self.shop.left]))
        if len(words) == 3 and words[0] in ("do", "reads") and is_name(words[1]) and is_number(words[2]):
            return self._answer_to_letter(words[0], words[1], int(words[2]))
        if words and words[0] in ("true", "harm") and all([is_name(word) for word in words[1:]]):
            return self._answer_to_keys(words[0], words[1:])
        raise BadLine(line)

    def _answer_to_letter(self, word, deed, it):
        if word == "do":
            return or_nothing("; ".join([written(effect) for effect in self.shop.do(deed, it).effects]))
        check_deed_and_input(self.shop.book, deed, it)
        return or_nothing(" ".join(reads(self.shop.book, self.shop.worths, ((deed, it),))))

    def _answer_to_keys(self, word, names):
        # What is no memory of the book is refused by both.
        memory = tuple([(name, "row") for name in names])
        if word == "true":
            return yes_or_no(is_true(self.shop.book, memory))
        return yes_or_no(harm(self.shop.book, memory)[0] == "harms")


def written(effect):
    """An effect, as a desk writes it."""
    if effect[0] == "refused":
        return " ".join(["refused", ">".join(effect[1]), effect[2]])
    return " ".join([str(part) for part in effect])


def written_worth(worth):
    """A worth, or that a key is gone."""
    return NOTHING if worth == GONE else str(worth)


def or_nothing(text):
    """The text, or how a desk writes that there is none."""
    return NOTHING if text == "" else text


def yes_or_no(answer):
    """The word for an answer."""
    return "yes" if answer else "no"
