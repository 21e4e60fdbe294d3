"""How a letter is executed, statement by statement, in a run and in a show."""

from onlytell.forms import GONE
from onlytell.lines import HERE, INPUT

# How many statements of a letter are executed; each one behind them is refused.
MOST_EXECUTED = 200

# How a statement leaves its deed for good: (road, word). A deed that is over is not refused: it has no word.
OVER = ((), "")
LACKS = ((), "lacks")
LONG = ((), "long")


class Scene:
    """What a letter acts on: the base, what is remembered, what has been told and looked at so far."""

    def __init__(self, script, memory, state):
        store, left = state
        self.script = script
        self.hows = dict(memory)
        self.base = {row[0]: worth for row, worth in zip(script.key_rows, store)}
        self.left = dict(left)
        self.told = []
        self.seen = []
        # The keys that the letter has changed by now, and those that it looked at ahead of any change of theirs.
        self.changed = {}
        self.read_first = {}
        self.many = 0

    def read(self, key, is_shown):
        """What a deed reads of a key: its worth, or that it is gone."""
        if is_shown and key in self.left:
            return self.left[key]
        return self.base[key]

    def put(self, key, worth, is_shown):
        """Let a key have this worth, or be gone; a show changes only what it remembers."""
        self.changed[key] = True
        if not is_shown:
            self.base[key] = worth
        elif key in self.hows:
            self.left[key] = worth

    def state_behind(self):
        """The state behind the letter, when what was remembered of it alone is forgotten."""
        left = [(key, worth) for key, worth in self.left.items() if self.hows[key] == "row"]
        return (tuple(self.base.values()), tuple(sorted(left)))


class Frame:
    """What a statement knows of its deed: the input, whether it is shown, and the key that `here` stands for."""

    def __init__(self, it, is_shown, here):
        self.it = it
        self.is_shown = is_shown
        self.here = here


def acted(book, machine, state, letter):
    """The Scene behind a letter, executed by a machine in this state."""
    is_shown = machine[0] == "show"
    scene = Scene(book.script, machine[1] if is_shown else (), state)
    refusal = execute_deed(scene, scene.script.programs[letter[0]], letter[1], is_shown)
    if refusal is not None:
        scene.told.append(("refused", refusal[0], refusal[1]))
    return scene


def step(book, machine, state, letter):
    """(telling, state behind it) of a letter."""
    scene = acted(book, machine, state, letter)
    return (tuple(scene.told), scene.state_behind())


def walked(book, machine, store, row):
    """(tellings, state behind them) of a row, by a machine that begins with this store."""
    tellings = []
    state = (store, ())
    for letter in row:
        telling, state = step(book, machine, state, letter)
        tellings.append(telling)
    return (tuple(tellings), state)


def worths_read(book, state):
    """What a deed that is not blind reads of each key, in this state of a machine."""
    worths = {row[0]: worth for row, worth in zip(book.key_rows, state[0])}
    for key, worth in state[1]:
        worths[key] = worth
    return worths


def told_from_each(book, row):
    """For each store, the tellings of a run of the row from it."""
    return {store: walked(book, ("run",), store, row)[0] for store in book.stores}


def execute_deed(scene, program, it, is_shown):
    """Execute a deed; (road, word) if it is refused, and then its effects are taken back."""
    frame = Frame(it, is_shown and not program.is_blind, "")
    many_told, base, left, changed = len(scene.told), dict(scene.base), dict(scene.left), dict(scene.changed)
    outcome = execute_block(scene, program.block, frame)
    if outcome is None or outcome == OVER:
        return None
    scene.told = scene.told[:many_told]
    scene.changed = changed
    # What blind deeds did to the base stays, unless the refused deed is blind, or below a blind one.
    if frame.is_shown:
        scene.left = left
    else:
        scene.base = base
    return ((program.name,) + outcome[0], outcome[1])


def execute_block(scene, block, frame):
    """Execute statement by statement; how one of them leaves the deed, or None if none does."""
    for statement in block:
        outcome = execute(scene, statement, frame)
        if outcome is not None:
            return outcome
    return None


def execute(scene, statement, frame):
    """Execute one statement; how it leaves the deed, or None."""
    if scene.many == MOST_EXECUTED:
        return LONG
    scene.many += 1
    action = ACTIONS[statement.word]
    return action(scene, statement, frame)


def execute_set(scene, statement, frame):
    key = key_of(statement, frame)
    amount = total(scene, statement, 0, frame)
    if amount == GONE:
        return LACKS
    worth = amount % scene.script.sizes[key]
    # Nothing but waking depends on the worth that the key had.
    elder = look(scene, statement, key, frame) if key in scene.script.woken else worth
    scene.told.append(("set", key, worth))
    return give(scene, key, elder, worth, frame)


def execute_add(scene, statement, frame):
    key = key_of(statement, frame)
    amount = total(scene, statement, 0, frame)
    if amount == GONE:
        return LACKS
    elder = look(scene, statement, key, frame)
    if elder == GONE:
        return LACKS
    size = scene.script.sizes[key]
    scene.told.append(("add", key, amount % size))
    return give(scene, key, elder, (elder + amount) % size, frame)


def give(scene, key, elder, worth, frame):
    """Let a key have a worth, and wake deeds if the elder one was another; (road, word) if one of them is refused."""
    scene.put(key, worth, frame.is_shown)
    if worth == elder:
        return None
    for program in scene.script.woken.get(key, []):
        refusal = execute_deed(scene, program, worth % program.size, frame.is_shown)
        if refusal is not None:
            return refusal
    return None


def execute_drop(scene, statement, frame):
    key = key_of(statement, frame)
    if look(scene, statement, key, frame) == GONE:
        return LACKS
    scene.told.append(("drop", key))
    scene.put(key, GONE, frame.is_shown)
    return None


def execute_say(scene, statement, frame):
    number = total(scene, statement, 0, frame)
    if number == GONE:
        return LACKS
    scene.told.append(("say", number))
    return None


def execute_if(scene, statement, frame):
    holds = tested(scene, statement, frame)
    if holds is None:
        return LACKS
    return execute_block(scene, statement.block if holds else statement.other_block, frame)


def execute_ask(scene, statement, frame):
    amount = total(scene, statement, 0, frame)
    if amount == GONE:
        return LACKS
    program = scene.script.programs[statement.name]
    return execute_deed(scene, program, amount % program.size, frame.is_shown)


def execute_try(scene, statement, frame):
    amount = total(scene, statement, 0, frame)
    if amount == GONE:
        return LACKS
    program = scene.script.programs[statement.name]
    refusal = execute_deed(scene, program, amount % program.size, frame.is_shown)
    if refusal is None:
        return None
    scene.told.append(("refused", refusal[0], refusal[1]))
    return execute_block(scene, statement.block, frame)


def execute_refuse(scene, statement, frame):
    return ((), statement.name)


def execute_each(scene, statement, frame):
    there = []
    for key in scene.script.members[statement.name]:
        if look(scene, statement, key, frame) != GONE:
            there.append(key)
    for key in there:
        if look(scene, statement, key, frame) != GONE:
            outcome = execute_block(scene, statement.block, Frame(frame.it, frame.is_shown, key))
            if outcome is not None:
                return outcome
    return None


def execute_end(scene, statement, frame):
    return OVER


ACTIONS = {
    "set": execute_set,
    "add": execute_add,
    "drop": execute_drop,
    "say": execute_say,
    "if": execute_if,
    "ask": execute_ask,
    "try": execute_try,
    "refuse": execute_refuse,
    "each": execute_each,
    "end": execute_end,
}


def tested(scene, statement, frame):
    """Whether the test of an `if` holds; None if it reads a key that is gone."""
    if statement.sign == "has":
        return look(scene, statement, key_of(statement, frame), frame) != GONE
    one = total(scene, statement, 0, frame)
    if one == GONE:
        return None
    other = total(scene, statement, 1, frame)
    if other == GONE:
        return None
    return (one == other) == (statement.sign == "=")


def total(scene, statement, at, frame):
    """What an E of the statement gives; GONE if it reads a key that is gone."""
    amount = 0
    for part in statement.sums[at]:
        worth = worth_of(scene, statement, part, frame)
        if worth == GONE:
            return GONE
        amount += worth
    return amount


def worth_of(scene, statement, part, frame):
    """What a P of the statement gives, or GONE."""
    if isinstance(part, int):
        return part
    if part == INPUT:
        return frame.it
    return look(scene, statement, frame.here if part == HERE else part, frame)


def key_of(statement, frame):
    """The key that the statement names."""
    return frame.here if statement.name == HERE else statement.name


def look(scene, statement, key, frame):
    """What the deed reads of a key here; that it was looked at is kept."""
    worth = scene.read(key, frame.is_shown)
    if key not in scene.changed:
        scene.read_first[key] = True
    scene.seen.append((statement.line, key, worth))
    return worth
