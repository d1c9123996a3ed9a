"""Typed values and pairs: which values they are, and where chains lead them."""

from samereading.chains import chain_end, follow, is_chain
from samereading.errors import DifferentKinds
from samereading.library import is_integer, is_kind


def check_kinds(one, other):
    """Raises an error if two libraries do not have the same kinds."""
    if one[0] != other[0]:
        raise DifferentKinds()


def typed_values(kinds):
    """The list of all typed values, ascending."""
    return [(kind, value) for kind, count in kinds for value in range(count)]


def is_typed_value(kinds, value):
    """Whether any value is a typed value."""
    if not isinstance(value, tuple) or len(value) != 2:
        return False
    kind, number = value
    return is_kind(kinds, kind) and is_integer(number) and 0 <= number < dict(kinds)[kind]


def is_pair(kinds, value):
    """Whether any value is a pair."""
    if not isinstance(value, tuple) or len(value) != 2:
        return False
    return all([is_typed_value(kinds, side) for side in value])


def led_to(library, typed, chain):
    """The typed value to which any value as a chain leads from a typed value, or None if it is no such chain."""
    kind, value = typed
    if not is_chain(library, kind, chain):
        return None
    return (chain_end(library, kind, chain), follow(library, chain, value))


def differ(typed, other):
    """Whether two typed values are different values of the same kind."""
    return typed[0] == other[0] and typed[1] != other[1]
