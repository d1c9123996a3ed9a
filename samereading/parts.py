"""Parts of a library: those that are kept coherent, and those that together cause a clash."""

from samereading.errors import TooMany
from samereading.library import extended, part
from samereading.relation import agree, coherent
from samereading.subsets import Subsets

MOST_SEARCHED = 10


def kept(library, order):
    """The ascending tuple of the places that are kept when they are gone through in this order."""
    found = ()
    for place in order:
        longer = tuple(sorted(found + (place,)))
        if coherent(part(library, longer)):
            found = longer
    return found


def without(places, place):
    """The places but for one of them."""
    return tuple([other for other in places if other != place])


def core(library):
    """None, or the ascending tuple of the places that are left of an incoherent library."""
    if coherent(library):
        return None
    left = tuple(range(len(library[1])))
    for place in reversed(range(len(library[1]))):
        fewer = without(left, place)
        if not coherent(part(library, fewer)):
            left = fewer
    return left


def is_core(library, places):
    """Whether the part with these places is incoherent, and each part of it with one place less is coherent."""
    if coherent(part(library, places)):
        return False
    return all([coherent(part(library, without(places, place))) for place in places])


def subsets_of(library):
    """What all parts of a library are like, if there are not too many of them."""
    if len(library[1]) > MOST_SEARCHED:
        raise TooMany(len(library[1]))
    return Subsets(library)


def cores(library):
    """The ascending tuple of all cores of a library."""
    return tuple(sorted(subsets_of(library).smallest_incoherent()))


def repairs(library):
    """The ascending tuple of all smallest tuples of places without which a library is coherent."""
    return tuple(sorted(subsets_of(library).smallest_missing()))


def conservative(library, item):
    """Whether a library agrees with the one that has any value as a further item."""
    return agree(library, extended(library, item))
