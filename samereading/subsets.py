"""Which parts of a library are coherent, for all sets of its places."""

from samereading.library import part
from samereading.relation import coherent


class Subsets:
    """Tells of all parts of a library whether they are coherent.

    A set of places is a number that has a bit for each place.
    """

    def __init__(self, library):
        self.whole = library
        self.many = len(library[1])
        self.known = {}
        # A set stands ahead of all smaller ones here, so a coherent one that is still unknown is as large as can be.
        for chosen in reversed(range(1 << self.many)):
            if chosen not in self.known and not self.is_coherent(chosen):
                self.shrink(chosen)

    def places(self, chosen):
        """The ascending tuple of the places in a set."""
        return tuple([place for place in range(self.many) if chosen & (1 << place)])

    def is_coherent(self, chosen):
        """Whether the part with these places is coherent."""
        if chosen not in self.known:
            self.learn(chosen, coherent(part(self.whole, self.places(chosen))))
        return self.known[chosen]

    def learn(self, chosen, answer):
        """Notes the answer for a set, and for all sets for which it is the same because of this one."""
        # A part of a coherent library is coherent.
        for other in range(1 << self.many):
            if other & chosen == (other if answer else chosen):
                self.known[other] = answer

    def shrink(self, chosen):
        """Goes down from an incoherent set to a smallest one: the answer for it tells of many other sets."""
        for place in self.places(chosen):
            fewer = chosen - (1 << place)
            if not self.is_coherent(fewer):
                chosen = fewer

    def smallest_incoherent(self):
        """The list of the incoherent sets of places that have no smaller one within them."""
        found = []
        for chosen in range(1 << self.many):
            below = [chosen - (1 << place) for place in self.places(chosen)]
            if not self.known[chosen] and all([self.known[fewer] for fewer in below]):
                found.append(self.places(chosen))
        return found

    def smallest_missing(self):
        """The list of the sets of places that are missing in the coherent sets that have no larger one around them."""
        everything = (1 << self.many) - 1
        found = []
        for missing in range(1 << self.many):
            chosen = everything - missing
            above = [chosen + (1 << place) for place in self.places(missing)]
            if self.known[chosen] and not any([self.known[more] for more in above]):
                found.append(self.places(missing))
        return found
