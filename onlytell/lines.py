"""What single lines of a book say, wherever they stand; None for a line that has none of the forms."""

from onlytell.forms import is_name

# What is read in the place of a key has a meaning of its own.
INPUT = "it"
HERE = "here"

# No statement has these words of refusals as its own.
KEPT_WORDS = ("lacks", "long")


class Statement:
    """A line of a program, with the statements of the blocks that stand below it."""

    def __init__(self, line, word, name, sums, sign):
        self.line = line
        self.word = word
        # The KEY, GROUP, DEED or WORD that the statement names, or "".
        self.name = name
        # Each E is a tuple of its P, each a number or a string.
        self.sums = sums
        # What the test of an `if` asks: "=", "!=" or "has".
        self.sign = sign
        self.block = []
        self.other_block = []
        self.has_else = False


class Program:
    """A deed of a book, with its statements."""

    def __init__(self, line, row):
        self.line = line
        self.row = row
        self.name, self.size, self.is_blind, self.key = row
        self.block = []


def depth_of(line):
    """How deep a line stands."""
    return blanks_ahead(line) // 2


def words_of(line):
    """The words of a line; none if a blank stands where it cannot."""
    words = line.lstrip(" ").split(" ")
    if "" in words or blanks_ahead(line) % 2 == 1:
        return []
    return words


def blanks_ahead(line):
    """How many blanks stand ahead of the words of a line."""
    return len(line) - len(line.lstrip(" "))


def key_row_of(words):
    """(name, size, whether it may be gone) of the line of a key."""
    if len(words) != 3 or words[0] not in ("key", "may") or words[2] not in ("2", "3"):
        return None
    if not is_name(words[1]) or words[1] in (INPUT, HERE):
        return None
    return (words[1], int(words[2]), words[0] == "may")


def group_row_of(words):
    """(name, keys) of the line of a group."""
    if len(words) < 4 or words[0] != "group" or not all([is_name(word) for word in words[1:]]):
        return None
    keys = words[2:]
    if len(set(keys)) != len(keys):
        return None
    return (words[1], tuple(keys))


def deed_row_of(words):
    """(name, size, whether it is blind, the key by which it is woken or "") of the line of a deed."""
    if len(words) < 3 or words[0] != "deed" or not is_name(words[1]) or words[2] not in ("1", "2", "3"):
        return None
    rest = words[3:]
    is_blind = rest[:1] == ["blind"]
    if is_blind:
        rest = rest[1:]
    if not rest:
        return (words[1], int(words[2]), is_blind, "")
    if len(rest) != 2 or rest[0] != "when" or not is_name(rest[1]):
        return None
    return (words[1], int(words[2]), is_blind, rest[1])


def statement_of(line, words):
    """The Statement that these words are; line is its number in the text."""
    word, rest = words[0], words[1:]
    if word == "end":
        return Statement(line, word, "", (), "") if not rest else None
    if word == "say":
        return with_sum(line, word, "", rest)
    if word == "if":
        return with_test(line, word, rest)
    if not rest or not is_name(rest[0]):
        return None
    if word in ("set", "add", "ask", "try"):
        return with_sum(line, word, rest[0], rest[1:])
    return with_name(line, word, rest)


def with_name(line, word, rest):
    """The Statement of a word and one name."""
    if len(rest) != 1 or word not in ("drop", "each", "refuse"):
        return None
    if word == "refuse" and rest[0] in KEPT_WORDS:
        return None
    return Statement(line, word, rest[0], (), "")


def with_sum(line, word, name, rest):
    """The Statement that ends in one E."""
    parts = parts_of(rest)
    if parts is None:
        return None
    return Statement(line, word, name, (parts,), "")


def with_test(line, word, rest):
    """The Statement that ends in a TEST."""
    if len(rest) == 2:
        if rest[0] != "has" or not is_name(rest[1]):
            return None
        return Statement(line, word, rest[1], (), "has")
    for place, sign in enumerate(rest):
        if sign in ("=", "!="):
            one, other = parts_of(rest[:place]), parts_of(rest[place + 1:])
            if one is None or other is None:
                return None
            return Statement(line, word, "", (one, other), sign)
    return None


def parts_of(words):
    """The P of an E: numbers and strings."""
    if len(words) == 3 and words[1] == "+":
        words = [words[0], words[2]]
    elif len(words) != 1:
        return None
    if not all([is_name(word) or is_number(word) for word in words]):
        return None
    return tuple([word if is_name(word) else int(word) for word in words])


def is_number(word):
    """Whether a word is a decimal number of at most 3 digits, without leading zeros."""
    if not 1 <= len(word) <= 3 or not all(["0" <= sign <= "9" for sign in word]):
        return False
    return word == "0" or word[0] != "0"
