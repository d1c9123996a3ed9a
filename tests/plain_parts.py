"""Section 11 in its plainest form: all sets of places of a small library, each looked at by itself."""

import itertools

from samereading.library import part
from tests import plain


def coherent(library):
    return not any([plain.clashes(library, library, pair) for pair in plain.least_closed(library, library)])


def all_sets(places):
    """All ascending tuples of some ascending places."""
    return [chosen for many in range(len(places) + 1) for chosen in itertools.combinations(places, many)]


class Parts:
    """Which parts of a small library are coherent."""

    def __init__(self, library):
        self.places = tuple(range(len(library[1])))
        self.coherent = {chosen: coherent(part(library, chosen)) for chosen in all_sets(self.places)}

    def kept(self, order):
        found = []
        for place in order:
            if self.coherent[tuple(sorted(found + [place]))]:
                found.append(place)
        return tuple(sorted(found))

    def core(self):
        if self.coherent[self.places]:
            return None
        left = list(self.places)
        for place in self.places[::-1]:
            if not self.coherent[tuple([other for other in left if other != place])]:
                left.remove(place)
        return tuple(left)

    def is_core(self, places):
        return not self.coherent[places] and all([
            self.coherent[chosen] for chosen in itertools.combinations(places, max(len(places) - 1, 0))
        ])

    def cores(self):
        """The sets that are incoherent and contain no other incoherent one."""
        wrong = [chosen for chosen in self.coherent if not self.coherent[chosen]]
        return tuple(sorted([this for this in wrong if not any([set(other) < set(this) for other in wrong])]))

    def repairs(self):
        found = [
            missing for missing in self.coherent
            if self.coherent[tuple([place for place in self.places if place not in missing])]
        ]
        return tuple(sorted([this for this in found if not any([set(other) < set(this) for other in found])]))

    def meeting_sets(self):
        """The smallest sets of places that have a place in common with each core."""
        all_cores = self.cores()
        found = [chosen for chosen in self.coherent if all([set(chosen) & set(other) for other in all_cores])]
        return tuple(sorted([this for this in found if not any([set(other) < set(this) for other in found])]))
