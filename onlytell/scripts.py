"""What the text of a book says, line by line, and the first line of it that cannot stand at its place."""

from onlytell.errors import BadBook
from onlytell.lines import Program, deed_row_of, depth_of, group_row_of, key_row_of, statement_of, words_of

MOST_KEYS = 4
MOST_GROUPS = 2
MOST_DEEDS = 5
MOST_STORES = 60
MOST_LETTERS = 8
MOST_IN_A_BLOCK = 8
MOST_STATEMENTS = 24
DEEPEST = 3


class Script:
    """The keys, groups and deeds of a text, as far as its lines have been taken."""

    def __init__(self):
        self.key_rows = []
        # The size of each key, and the keys of each group, in the sequence of the text.
        self.sizes = {}
        self.members = {}
        self.group_lines = {}
        self.programs = {}
        # For each key by which deeds are woken, these deeds, in the sequence of the text.
        self.woken = {}
        self._many = 0
        # The blocks that a further line may belong to, the one that is one deep first.
        self._blocks = []
        # How deep the statement is that must come next, or 0.
        self._due = 0

    def take(self, number, line):
        """Take the next line; False if it cannot stand here."""
        words = words_of(line)
        depth = depth_of(line)
        if not words:
            return False
        if depth == 0:
            return self._due == 0 and self._take_row(number, words)
        if depth > len(self._blocks) or self._due not in (0, depth):
            return False
        if words == ["else"]:
            return self._due == 0 and self._take_else(depth)
        return self._take_statement(depth, statement_of(number, words))

    def is_whole(self):
        """Whether the text may end here."""
        return len(self.programs) > 0 and self._due == 0

    def _take_row(self, number, words):
        if words[0] == "group":
            return self._take_group(number, group_row_of(words))
        if words[0] == "deed":
            return self._take_deed(number, deed_row_of(words))
        return self._take_key(key_row_of(words))

    def _take_key(self, row):
        if row is None or self.members or self.programs:
            return False
        if len(self.key_rows) == MOST_KEYS or row[0] in self.sizes:
            return False
        self.key_rows.append(row)
        self.sizes[row[0]] = row[1]
        return how_many_stores(self.key_rows) <= MOST_STORES

    def _take_group(self, number, row):
        if row is None or not self.key_rows or self.programs:
            return False
        if len(self.members) == MOST_GROUPS or row[0] in self.members:
            return False
        self.members[row[0]] = row[1]
        self.group_lines[row[0]] = number
        return True

    def _take_deed(self, number, row):
        if row is None or not self.key_rows:
            return False
        if len(self.programs) == MOST_DEEDS or row[0] in self.programs:
            return False
        program = Program(number, row)
        self.programs[program.name] = program
        if program.key != "":
            self.woken.setdefault(program.key, []).append(program)
        self._blocks = [program.block]
        self._due = 1
        return sum([deed.size for deed in self.programs.values()]) <= MOST_LETTERS

    def _take_else(self, depth):
        # The block below a `try` may be empty as yet.
        block = self._blocks[depth - 1]
        if not block or block[-1].word != "if" or block[-1].has_else:
            return False
        elder = block[-1]
        elder.has_else = True
        self._begin(depth, elder.other_block)
        self._due = depth + 1
        return True

    def _take_statement(self, depth, statement):
        if statement is None or self._many == MOST_STATEMENTS:
            return False
        block = self._blocks[depth - 1]
        needs_block = statement.word in ("if", "each")
        if len(block) == MOST_IN_A_BLOCK or needs_block and depth == DEEPEST:
            return False
        block.append(statement)
        self._many += 1
        self._due = depth + 1 if needs_block else 0
        if needs_block or statement.word == "try" and depth < DEEPEST:
            self._begin(depth, statement.block)
        else:
            self._blocks = self._blocks[:depth]
        return True

    def _begin(self, depth, block):
        self._blocks = self._blocks[:depth] + [block]


def how_many_stores(key_rows):
    """How many stores there are with these keys."""
    many = 1
    for _, size, may_be_gone in key_rows:
        many = many * (size + 1 if may_be_gone else size)
    return many


def script_of(text):
    """The Script of a text; BadBook with the number of the first line that is wrong or missing."""
    if not isinstance(text, str):
        raise BadBook(0)
    lines = text.split("\n")
    script = Script()
    for number, line in enumerate(lines, start=1):
        if not script.take(number, line):
            raise BadBook(number)
    if not script.is_whole():
        raise BadBook(len(lines) + 1)
    return script
