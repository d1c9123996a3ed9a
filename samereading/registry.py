"""A registry: a library that is kept coherent while items are added and removed."""

from samereading.clashes import clash_size
from samereading.errors import BadKinds, BadLimit, Incoherent, NoPlace, NothingToUndo
from samereading.library import extended, is_integer, is_kinds, is_library, is_limit, with_item
from samereading.relation import coherent


def can_take(library, item):
    """Whether a library can have any value as a further item and is coherent with it."""
    longer = with_item(library, item)
    return is_library(longer) and coherent(longer)


class Registry:
    """A library that starts without items, is always coherent, and can take its changes back."""

    def __init__(self, kinds, limit=1):
        if not is_kinds(kinds):
            raise BadKinds(kinds)
        if not is_limit(limit):
            raise BadLimit(limit)
        self.held = (kinds, (), limit)
        # The library as it was ahead of each change that can be taken back: an undo needs nothing else.
        self.earlier = []

    def library(self):
        """The library."""
        return self.held

    def __len__(self):
        """The number of items."""
        return len(self.held[1])

    def __eq__(self, other):
        """Whether any value is a registry with an equal library."""
        return isinstance(other, Registry) and self.held == other.held

    def accepts(self, item):
        """Whether any value can be added."""
        return can_take(self.held, item)

    def add(self, item):
        """Adds an item as the last one."""
        longer = extended(self.held, item)
        size = clash_size(longer, longer)
        if size is not None:
            raise Incoherent(size)
        self.change_to(longer)

    def offer(self, items):
        """Adds each of some values that is accepted by then; whether each was added."""
        library = self.held
        answers = []
        for item in items:
            is_taken = can_take(library, item)
            if is_taken:
                library = with_item(library, item)
            answers.append(is_taken)
        self.change_to(library)
        return tuple(answers)

    def remove(self, place):
        """Removes the item at a place and returns it."""
        kinds, items, limit = self.held
        if not is_integer(place) or not 0 <= place < len(items):
            raise NoPlace(place)
        self.change_to((kinds, items[:place] + items[place + 1:], limit))
        return items[place]

    def undo(self):
        """Takes back the last change that has not been taken back."""
        if not self.earlier:
            raise NothingToUndo()
        self.held = self.earlier.pop()

    def changes(self):
        """How many changes can be taken back."""
        return len(self.earlier)

    def copy(self):
        """An independent registry in the same state."""
        kinds, _, limit = self.held
        other = Registry(kinds, limit)
        other.held = self.held
        other.earlier = list(self.earlier)
        return other

    def change_to(self, library):
        """Goes over to another library, as one change."""
        self.earlier.append(self.held)
        self.held = library
