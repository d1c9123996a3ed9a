"""Local clashes: those of expressions with at most one node that is not an input."""

from samereading.derivations import parting_ends, written_clash
from samereading.growth import Growth
from samereading.relation import equal_pairs
from samereading.typed import check_kinds


def local_growth(one, other):
    """The growth of two libraries by which the inputs alone are settled, and what follows from them is noted."""
    growth = Growth(one, other)
    growth.begin(equal_pairs(one[0]))
    for at in range(growth.width):
        growth.settle(at * growth.width + at)
    return growth


def local_clash(one, other):
    """None, or a clash whose last row is an input row or has only input rows as arguments."""
    check_kinds(one, other)
    growth = local_growth(one, other)
    for number, size in enumerate(growth.sizes):
        if size is not None:
            ends = parting_ends(growth, number)
            if ends is not None:
                return written_clash(growth, number, ends[0], ends[1])
    return None


def local_agree(one, other):
    """Whether no expression with at most one node that is not an input can have different values."""
    return local_clash(one, other) is None
