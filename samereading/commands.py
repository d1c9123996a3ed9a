"""The lines that a session understands, taken apart."""

from samereading.library import is_kind
from samereading.words import item_written, names_written, number_written, table_written

MOST_INPUTS = 8
MOST_DIGITS = 4


def inputs_named(kinds, text):
    """The input kinds that a string writes, or None."""
    names = names_written(text)
    if len(names) > MOST_INPUTS or not all([is_kind(kinds, name) for name in names]):
        return None
    return names


def values_written(kinds, input_kinds, text):
    """The inputs for these input kinds that a string writes, or None."""
    values = () if text == "-" else table_written(text)
    if values is None or len(values) != len(input_kinds):
        return None
    counts = dict(kinds)
    fitting = [value < counts[kind] for kind, value in zip(input_kinds, values)]
    return values if all(fitting) else None


def no_parts(_):
    """The parts of a line that has its first word alone."""
    return ()


def place_parts(_, text):
    """The number that a line has behind its first word, or None."""
    number = number_written(text, MOST_DIGITS)
    return None if number is None else (number,)


def item_parts(kinds, text):
    """The item that a line has behind its first word, or None."""
    item = item_written(kinds, text)
    return None if item is None else (item,)


def kinds_parts(kinds, inputs, text):
    """The input kinds and the text of the expression of a line, or None."""
    input_kinds = inputs_named(kinds, inputs)
    return None if input_kinds is None else (input_kinds, text)


def count_parts(kinds, kind, inputs, text):
    """The kind, the input kinds and the text of the expression of a line, or None."""
    input_kinds = inputs_named(kinds, inputs)
    if not is_kind(kinds, kind) or input_kinds is None:
        return None
    return (kind, input_kinds, text)


def value_parts(kinds, kind, inputs, numbers, text):
    """The kind, the input kinds, the inputs and the text of the expression of a line, or None."""
    input_kinds = inputs_named(kinds, inputs)
    if not is_kind(kinds, kind) or input_kinds is None:
        return None
    values = values_written(kinds, input_kinds, numbers)
    return None if values is None else (kind, input_kinds, values, text)


# Each first word with the number of spaces ahead of the last part; all further spaces belong to that part.
SPACES = {"add": 1, "remove": 1, "undo": 0, "show": 0, "accepts": 1, "count": 3, "kinds": 2, "value": 4, "breaks": 1}

PARTS = {
    "add": item_parts,
    "remove": place_parts,
    "undo": no_parts,
    "show": no_parts,
    "accepts": item_parts,
    "count": count_parts,
    "kinds": kinds_parts,
    "value": value_parts,
    "breaks": item_parts,
}


def parts_written(kinds, line):
    """The tuple of the first word and the parts of any value as a line for these kinds, or None."""
    if not isinstance(line, str):
        return None
    word = line.split(" ")[0]
    if word not in SPACES:
        return None
    words = line.split(" ", SPACES[word])
    if words[0] != word or len(words) != SPACES[word] + 1:
        return None
    take_parts = PARTS[word]
    rest = words[1:]
    parts = take_parts(kinds, *rest)
    return None if parts is None else (word,) + parts
