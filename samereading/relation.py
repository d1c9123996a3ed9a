"""The pair relation of two libraries, and whether they agree."""

from samereading.chains import ends_of
from samereading.growth import Growth
from samereading.typed import check_kinds, differ, is_pair, typed_values


def equal_pairs(kinds):
    """The pairs of each typed value with itself."""
    return [(typed, typed) for typed in typed_values(kinds)]


def grown(one, other, starts, to_first_clash):
    """The growth of two libraries from some pairs, until it is closed or, if wanted, a pair clashes."""
    growth = Growth(one, other)
    growth.begin(starts)
    growth.grow(to_first_clash)
    return growth


def pairs(one, other):
    """The pair relation as an ascending tuple."""
    check_kinds(one, other)
    return grown(one, other, equal_pairs(one[0]), False).pairs()


def is_ascending_pairs(kinds, value):
    """Whether any value is an ascending tuple of pairs."""
    if not isinstance(value, tuple) or not all([is_pair(kinds, pair) for pair in value]):
        return False
    return all([first < second for first, second in zip(value, value[1:])])


def closed_growth(one, other, value):
    """The growth from any value if it is an ascending tuple of pairs that is a closed set, otherwise None."""
    if not is_ascending_pairs(one[0], value):
        return None
    found = {pair: True for pair in value}
    if not all([pair in found for pair in equal_pairs(one[0])]):
        return None
    growth = grown(one, other, list(value), False)
    return growth if len(growth.settled) == len(value) else None


def is_closed(one, other, value):
    """Whether any value is an ascending tuple of pairs that is a closed set."""
    check_kinds(one, other)
    return closed_growth(one, other, value) is not None


def pair_clashes(one, other, pair):
    """Whether chains lead from a pair to two different values of one kind."""
    check_kinds(one, other)
    (kind, value), (other_kind, other_value) = pair
    other_ends = ends_of(other, other_kind, other_value)
    return any([differ(end, other_end) for end in ends_of(one, kind, value) for other_end in other_ends])


def agree(one, other):
    """Whether two libraries agree."""
    return agreement(one, other) is not None


def coherent(library):
    """Whether a library is coherent."""
    return agree(library, library)


def agreement(one, other):
    """The pair relation if two libraries agree, otherwise None."""
    check_kinds(one, other)
    growth = grown(one, other, equal_pairs(one[0]), True)
    return growth.pairs() if growth.parting is None else None


def shows_agreement(one, other, value):
    """Whether any value is an ascending tuple of pairs that is a closed set without a pair that clashes."""
    check_kinds(one, other)
    growth = closed_growth(one, other, value)
    return growth is not None and growth.parting is None
