"""Kinds, items and libraries: which values they are, and how to make one from another."""

from samereading.errors import BadItem

MOST_LETTERS = 8
MOST_KINDS = 6
MOST_VALUES = 8
MOST_PARAMETERS = 3
MOST_ENTRIES = 64
MOST_ITEMS = 30
MOST_STEPS = 4


def is_integer(value):
    """Whether any value is an integer; True and False are none."""
    return isinstance(value, int) and not isinstance(value, bool)


def is_name(value):
    """Whether any value is a name."""
    if not isinstance(value, str) or not 1 <= len(value) <= MOST_LETTERS:
        return False
    return all(["a" <= letter <= "z" for letter in value])


def is_limit(value):
    """Whether any value is a limit for the length of chains."""
    return is_integer(value) and 0 <= value <= MOST_STEPS


def is_kind(kinds, value):
    """Whether any value is the name of one of the kinds."""
    return value in [name for name, _ in kinds]


def is_counted_name(value):
    """Whether any value is a name with a number of values that a kind may have."""
    if not isinstance(value, tuple) or len(value) != 2:
        return False
    name, count = value
    return is_name(name) and is_integer(count) and 1 <= count <= MOST_VALUES


def is_kinds(value):
    """Whether any value is kinds."""
    if not isinstance(value, tuple) or not 1 <= len(value) <= MOST_KINDS:
        return False
    if not all([is_counted_name(pair) for pair in value]):
        return False
    names = [name for name, _ in value]
    return names == sorted(set(names))


def is_table(value, length, count):
    """Whether any value is a table of this length for a kind with so many values."""
    if not isinstance(value, tuple) or len(value) != length:
        return False
    return all([is_integer(entry) and 0 <= entry < count for entry in value])


def is_conversion(kinds, value):
    """Whether a tuple of six parts, the first one "conversion", is a conversion for these kinds."""
    _, name, source, target, is_implicit, table = value
    if not is_name(name) or not is_kind(kinds, source) or not is_kind(kinds, target):
        return False
    if source == target or not isinstance(is_implicit, bool):
        return False
    counts = dict(kinds)
    return is_table(table, counts[source], counts[target])


def is_parameters(kinds, value):
    """Whether any value is the parameters of a definition."""
    if not isinstance(value, tuple) or len(value) > MOST_PARAMETERS:
        return False
    return all([is_kind(kinds, parameter) for parameter in value])


def is_definition(kinds, value):
    """Whether a tuple of five parts, the first one "definition", is a definition for these kinds."""
    _, operator, parameters, result, table = value
    if not is_name(operator) or not is_parameters(kinds, parameters) or not is_kind(kinds, result):
        return False
    counts = dict(kinds)
    length = 1
    for parameter in parameters:
        length = length * counts[parameter]
    return length <= MOST_ENTRIES and is_table(table, length, counts[result])


def is_item(kinds, value):
    """Whether any value is an item for these kinds."""
    if not isinstance(value, tuple):
        return False
    if len(value) == 6:
        return value[0] == "conversion" and is_conversion(kinds, value)
    return len(value) == 5 and value[0] == "definition" and is_definition(kinds, value)


def identity(item):
    """What no other item of the same library may have: name, or operator and signature."""
    if item[0] == "conversion":
        return item[:2]
    return item[:4]


def is_items(kinds, value):
    """Whether any value is items for these kinds."""
    if not isinstance(value, tuple) or len(value) > MOST_ITEMS:
        return False
    if not all([is_item(kinds, item) for item in value]):
        return False
    return len({identity(item) for item in value}) == len(value)


def is_library(value):
    """Whether any value is a library."""
    if not isinstance(value, tuple) or len(value) != 3:
        return False
    kinds, items, limit = value
    return is_kinds(kinds) and is_limit(limit) and is_items(kinds, items)


def part(library, places):
    """The library with the items at these places alone."""
    kinds, items, limit = library
    return (kinds, tuple([items[place] for place in places]), limit)


def with_item(library, item):
    """What the library would be with any value as a further, last item."""
    kinds, items, limit = library
    return (kinds, items + (item,), limit)


def extended(library, item):
    """The library with the item as a further, last one."""
    longer = with_item(library, item)
    if not is_library(longer):
        raise BadItem(item)
    return longer


def renamed_item(item, names):
    """The item with its kinds renamed; names of conversions and operators stay."""
    if item[0] == "conversion":
        tag, name, source, target, is_implicit, table = item
        return (tag, name, names[source], names[target], is_implicit, table)
    tag, operator, parameters, result, table = item
    return (tag, operator, tuple([names[kind] for kind in parameters]), names[result], table)


def renamed(library, names):
    """The library with its kinds renamed everywhere."""
    kinds, items, limit = library
    ascending = sorted([(names[name], count) for name, count in kinds])
    return (tuple(ascending), tuple([renamed_item(item, names) for item in items]), limit)
