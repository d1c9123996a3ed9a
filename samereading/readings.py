"""The readings of an expression: how many, which ones, and what they return."""

from samereading.chains import chain_end, ends_of, follow, is_chain
from samereading.choices import chosen, node_choices, place_of
from samereading.errors import NoNumber
from samereading.expressions import below, laid_out
from samereading.library import is_integer
from samereading.numbering import Numbering, label_of
from samereading.typed import typed_values


def kinds_of(library, input_kinds, expression):
    """The ascending tuple of the kinds of the readings of an expression."""
    numbering = Numbering(library, input_kinds, expression)
    return tuple([kind for kind, _ in library[0] if numbering.total(kind) > 0])


def reading_count(library, input_kinds, expression, target):
    """How many readings of a kind an expression has."""
    return Numbering(library, input_kinds, expression).total(target)


def reading_at(library, input_kinds, expression, target, number):
    """The reading of a kind with a number."""
    numbering = Numbering(library, input_kinds, expression)
    if not is_integer(number) or not 0 <= number < numbering.total(target):
        raise NoNumber(number)
    return numbering.reading(target, number)


def has_form(node, value):
    """Whether any value has the form of a reading of a node, whatever its choice, its arguments and its chain are."""
    if not isinstance(value, tuple) or len(value) != (2 if node[0] == "input" else 4):
        return False
    if value[0] != node[0]:
        return False
    return node[0] != "call" or (isinstance(value[2], tuple) and len(value[2]) == len(node[2]))


def taken(library, input_kinds, node, value):
    """What any value takes as a reading at a node alone: (kinds of its arguments, its kind), or None."""
    if not has_form(node, value):
        return None
    option = chosen(node_choices(library, input_kinds, node), label_of(value))
    if option is None or not is_chain(library, option[2], value[-1]):
        return None
    return (option[1], chain_end(library, option[2], value[-1]))


def reading_kind(library, input_kinds, expression, value):
    """The kind of the reading of an expression that any value is, or None."""
    root = taken(library, input_kinds, expression, value)
    waiting = [(expression, value, root)]
    while waiting:
        node, part, found = waiting.pop()
        if found is None:
            return None
        for child, inner, kind in zip(below(node), below(part), found[0]):
            lower = taken(library, input_kinds, child, inner)
            if lower is None or lower[1] != kind:
                return None
            waiting.append((child, inner, lower))
    return root[1]


def reading_number(library, input_kinds, expression, reading):
    """The number of a reading among those of its kind."""
    return Numbering(library, input_kinds, expression).number(reading)


def own_value(library, input_kinds, node, reading, arguments, inputs):
    """The value of a reading ahead of its chain; arguments are the values of its arguments."""
    if node[0] == "input":
        return inputs[node[1]]
    _, parameters, _, table = chosen(node_choices(library, input_kinds, node), label_of(reading))
    return table[place_of(library[0], parameters, arguments)]


def value_of(library, input_kinds, expression, reading, inputs):
    """The value of a reading."""
    rows = laid_out(expression)
    parts = [part for part, _ in laid_out(reading)]
    done = [0] * len(rows)
    for at in reversed(range(len(rows))):
        node, places = rows[at]
        arguments = [done[place] for place in places]
        value = own_value(library, input_kinds, node, parts[at], arguments, inputs)
        done[at] = follow(library, parts[at][-1], value)
    return done[0]


def entries(library, option, arguments):
    """The entries of a choice; arguments has for each argument a dict of the values that it has of each kind."""
    counts = dict(library[0])
    places = [0]
    for kind, found in zip(option[1], arguments):
        places = [place * counts[kind] + value for place in places for value in found.get(kind, [])]
    return [option[3][place] for place in places]


def own_values(library, input_kinds, node, arguments, inputs):
    """The typed values of all readings of a node ahead of their chains, each once."""
    if node[0] == "input":
        return [(input_kinds[node[1]], inputs[node[1]])]
    found = {}
    for option in node_choices(library, input_kinds, node):
        for entry in entries(library, option, arguments):
            found[(option[2], entry)] = True
    return list(found)


def followed(ends, starts):
    """For each kind the ascending list of its values to which chains lead from some typed values."""
    found = {}
    for typed in starts:
        for end in ends[typed]:
            found[end] = True
    rows = {}
    for kind, value in sorted(found):
        rows.setdefault(kind, []).append(value)
    return rows


def results(library, input_kinds, expression, target, inputs):
    """The ascending tuple of the values of all readings of a kind."""
    ends = {(kind, value): ends_of(library, kind, value) for kind, value in typed_values(library[0])}
    rows = laid_out(expression)
    done = [{} for _ in rows]
    for at in reversed(range(len(rows))):
        node, places = rows[at]
        arguments = [done[place] for place in places]
        done[at] = followed(ends, own_values(library, input_kinds, node, arguments, inputs))
    return tuple(done[0].get(target, []))
