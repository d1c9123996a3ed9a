"""Clashes: derivations, the smallest clash of two libraries, and the expression of a clash."""

from samereading.choices import call_choices, cast_choices, chosen, place_of
from samereading.derivations import written_clash
from samereading.errors import TooLarge
from samereading.expressions import MOST_NODES, laid_out, rebuilt
from samereading.library import is_integer, is_kind
from samereading.relation import equal_pairs, grown
from samereading.typed import check_kinds, differ, is_typed_value, led_to


def is_argument(value, many):
    """Whether any value has the form of an argument of a row with so many rows before it."""
    if not isinstance(value, tuple) or len(value) != 3:
        return False
    return is_integer(value[0]) and 0 <= value[0] < many


def result(library, choice, arguments):
    """The typed value that a choice gives for arguments (typed value, any value as chain), or None."""
    values = []
    for (typed, chain), parameter in zip(arguments, choice[1]):
        end = led_to(library, typed, chain)
        if end is None or end[0] != parameter:
            return None
        values.append(end[1])
    _, parameters, kind, table = choice
    return (kind, table[place_of(library[0], parameters, values)])


def both_results(one, other, choices, arguments, earlier):
    """The pair that two choices give for any values as arguments, or None; earlier has the pairs so far."""
    choice, other_choice = choices
    if choice is None or other_choice is None:
        return None
    if not all([is_argument(argument, len(earlier)) for argument in arguments]):
        return None
    first = result(one, choice, [(earlier[row][0], chain) for row, chain, _ in arguments])
    second = result(other, other_choice, [(earlier[row][1], chain) for row, _, chain in arguments])
    return None if first is None or second is None else (first, second)


def input_pair(kinds, row):
    """The pair that a tuple of three parts derives as a row of an input, or None."""
    if row[0] != "input" or not is_typed_value(kinds, row[1:]):
        return None
    return (row[1:], row[1:])


def row_pair(one, other, row, earlier):
    """The pair that any value derives as a row, or None; earlier has the pairs so far."""
    if not isinstance(row, tuple) or len(row) not in (3, 5):
        return None
    if len(row) == 3:
        return input_pair(one[0], row)
    tag, name, label, other_label, rest = row
    if tag == "call" and isinstance(rest, tuple):
        choice = chosen(call_choices(one, name, len(rest)), label)
        other_choice = chosen(call_choices(other, name, len(rest)), other_label)
        return both_results(one, other, (choice, other_choice), rest, earlier)
    if tag == "cast" and is_kind(one[0], name):
        choice = chosen(cast_choices(one, name), label)
        other_choice = chosen(cast_choices(other, name), other_label)
        return both_results(one, other, (choice, other_choice), (rest,), earlier)
    return None


def derived_pair(one, other, value):
    """The pair of the last row of any value if it is a derivation, otherwise None."""
    check_kinds(one, other)
    if not isinstance(value, tuple) or not value:
        return None
    found = []
    for row in value:
        pair = row_pair(one, other, row, found)
        if pair is None:
            return None
        found.append(pair)
    return found[-1]


def shows_clash(one, other, value):
    """Whether any value is a clash."""
    check_kinds(one, other)
    if not isinstance(value, tuple) or len(value) != 3:
        return False
    derivation, chain, other_chain = value
    pair = derived_pair(one, other, derivation)
    if pair is None:
        return False
    end = led_to(one, pair[0], chain)
    other_end = led_to(other, pair[1], other_chain)
    return end is not None and other_end is not None and differ(end, other_end)


def clash(one, other):
    """None if two libraries agree, otherwise a clash whose last row has the least size."""
    check_kinds(one, other)
    growth = grown(one, other, equal_pairs(one[0]), True)
    if growth.parting is None:
        return None
    number, end, other_end = growth.parting
    return written_clash(growth, number, end, other_end)


def clash_size(one, other):
    """The least size of the last row of a clash, or None if two libraries agree."""
    check_kinds(one, other)
    growth = grown(one, other, equal_pairs(one[0]), True)
    return None if growth.parting is None else growth.sizes[growth.parting[0]]


def arguments_of_row(row):
    """The arguments of a row of a derivation."""
    if row[0] == "call":
        return row[4]
    if row[0] == "cast":
        return (row[4],)
    return ()


def row_sizes(derivation):
    """The sizes of the rows of a derivation."""
    sizes = []
    for row in derivation:
        sizes.append(1 + sum([sizes[argument[0]] for argument in arguments_of_row(row)]))
    return tuple(sizes)


def row_node(at, row, nodes):
    """The expression of a row, in which an input has the number of its row; nodes has those of the rows before."""
    if row[0] == "input":
        return ("input", at)
    children = [nodes[argument[0]] for argument in arguments_of_row(row)]
    if row[0] == "call":
        return ("call", row[1], tuple(children))
    return ("cast", row[1], children[0])


def row_reading(row, readings, side):
    """The reading of a row in one (side 1) or other (side 2) ahead of its chain; readings has those before."""
    if row[0] == "input":
        return ("input",)
    children = [readings[argument[0]] + (argument[side],) for argument in arguments_of_row(row)]
    if row[0] == "call":
        return ("call", row[1 + side], tuple(children))
    return ("cast", row[1 + side], children[0])


def renumbered(expression):
    """The expression with its inputs numbered from the left to the right, and the numbers they had, in order."""
    rows = laid_out(expression)
    numbers = [node[1] for node, _ in rows if node[0] == "input"]
    left = len(numbers)
    done = [()] * len(rows)
    for at in reversed(range(len(rows))):
        node, places = rows[at]
        if node[0] == "input":
            left = left - 1
            done[at] = ("input", left)
        else:
            done[at] = rebuilt(node, [done[place] for place in places], ())
    return (done[0], numbers)


def unfolded(one, other, clash):
    """(input kinds, expression, reading, other reading, inputs) of a clash."""
    check_kinds(one, other)
    derivation, chain, other_chain = clash
    largest = row_sizes(derivation)[-1]
    if largest > MOST_NODES:
        raise TooLarge(largest)
    nodes = []
    readings = []
    other_readings = []
    for at, row in enumerate(derivation):
        nodes.append(row_node(at, row, nodes))
        readings.append(row_reading(row, readings, 1))
        other_readings.append(row_reading(row, other_readings, 2))
    expression, used = renumbered(nodes[-1])
    input_kinds = tuple([derivation[at][1] for at in used])
    inputs = tuple([derivation[at][2] for at in used])
    return (input_kinds, expression, readings[-1] + (chain,), other_readings[-1] + (other_chain,), inputs)
