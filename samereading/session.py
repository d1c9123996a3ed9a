"""A session: a registry that is asked and changed by lines of text."""

from samereading.clashes import clash_size
from samereading.commands import parts_written
from samereading.errors import BadCommand
from samereading.library import extended
from samereading.readings import kinds_of, reading_count, results
from samereading.registry import Registry
from samereading.texts import read_expression, read_library, show_item, show_library


def answer_add(registry, item):
    """Adds the item."""
    registry.add(item)
    return "ok"


def answer_remove(registry, place):
    """Removes the item at a place and tells which one it was."""
    return show_item(registry.remove(place))


def answer_undo(registry):
    """Takes back the last change."""
    registry.undo()
    return "ok"


def answer_show(registry):
    """Tells the library."""
    return show_library(registry.library()).replace("\n", " / ")


def answer_accepts(registry, item):
    """Tells whether the item can be added."""
    return "yes" if registry.accepts(item) else "no"


def answer_count(registry, kind, input_kinds, text):
    """Tells how many readings of a kind the expression has."""
    library = registry.library()
    expression = read_expression(library, input_kinds, text)
    return str(reading_count(library, input_kinds, expression, kind))


def answer_kinds(registry, input_kinds, text):
    """Tells the kinds of the readings of the expression."""
    library = registry.library()
    expression = read_expression(library, input_kinds, text)
    return ",".join(kinds_of(library, input_kinds, expression)) or "-"


def answer_value(registry, kind, input_kinds, inputs, text):
    """Tells the value of the readings of a kind of the expression."""
    library = registry.library()
    expression = read_expression(library, input_kinds, text)
    # The library is coherent, so there is at most one value.
    found = results(library, input_kinds, expression, kind, inputs)
    return str(found[0]) if found else "-"


def answer_breaks(registry, item):
    """Tells the size of the smallest clash that there would be with the item."""
    longer = extended(registry.library(), item)
    size = clash_size(longer, longer)
    return "-" if size is None else str(size)


ANSWERS = {
    "add": answer_add,
    "remove": answer_remove,
    "undo": answer_undo,
    "show": answer_show,
    "accepts": answer_accepts,
    "count": answer_count,
    "kinds": answer_kinds,
    "value": answer_value,
    "breaks": answer_breaks,
}


class Session:
    """A registry that begins with the items of a text and answers lines."""

    def __init__(self, text):
        kinds, items, limit = read_library(text)
        self.registry = Registry(kinds, limit)
        self.registry.offer(items)

    def run(self, line):
        """The answer to any value as a line."""
        parts = parts_written(self.registry.library()[0], line)
        if parts is None:
            raise BadCommand(line)
        answer = ANSWERS[parts[0]]
        rest = parts[1:]
        return answer(self.registry, *rest)
