"""What the lines of a script name: keys, groups and deeds that must exist, and deeds that must stand further below."""

from onlytell.errors import Unnamed, Upward
from onlytell.lines import HERE, INPUT


def check_names(script):
    """Unnamed with the first line that names what it cannot name."""
    for name, line in script.group_lines.items():
        if not all([key in script.sizes for key in script.members[name]]):
            raise Unnamed(line)
    for program in script.programs.values():
        if program.key != "" and program.key not in script.sizes:
            raise Unnamed(program.line)
        for statement, group in rows_below(program.block, ""):
            if not is_named(script, statement, group):
                raise Unnamed(statement.line)


def check_directions(script):
    """Upward with the first line that asks, tries or wakes a deed that does not stand below its own."""
    below = list(script.programs)
    for program in script.programs.values():
        below = below[1:]
        for statement, group in rows_below(program.block, ""):
            if not all([name in below for name in deeds_begun(script, statement, group)]):
                raise Upward(statement.line)


def rows_below(block, group):
    """Each statement of a block and below it, in the sequence of the text, with the group of its innermost `each`."""
    rows = []
    for statement in block:
        inner = statement.name if statement.word == "each" else group
        rows.append((statement, group))
        rows.extend(rows_below(statement.block, inner))
        rows.extend(rows_below(statement.other_block, group))
    return rows


def is_named(script, statement, group):
    """Whether all that a statement names exists."""
    if statement.word in ("ask", "try") and statement.name not in script.programs:
        return False
    if statement.word == "each" and statement.name not in script.members:
        return False
    for key in names_of_keys(statement):
        if group == "" and key == HERE or key != HERE and key not in script.sizes:
            return False
    return statement.word != "drop" or all_may_be_gone(script, keys_meant(script, statement.name, group))


def names_of_keys(statement):
    """What stands for a KEY in a statement, `here` too."""
    names = names_in_sums(statement)
    if statement.word in ("set", "add", "drop") or statement.sign == "has":
        names.append(statement.name)
    return names


def names_in_sums(statement):
    """What stands for a KEY in the E of a statement."""
    return [part for parts in statement.sums for part in parts if isinstance(part, str) and part != INPUT]


def keys_meant(script, name, group):
    """The keys that a name in the place of a KEY stands for, within `each` of this group."""
    if name == HERE:
        return list(script.members[group])
    return [name]


def all_may_be_gone(script, keys):
    """Whether none of these keys is always there."""
    return not any([row[0] in keys and not row[2] for row in script.key_rows])


def deeds_begun(script, statement, group):
    """The names of the deeds that a statement asks, tries or wakes."""
    if statement.word in ("ask", "try"):
        return [statement.name]
    if statement.word not in ("set", "add"):
        return []
    keys = keys_meant(script, statement.name, group)
    return [program.name for key in keys for program in script.woken.get(key, [])]
