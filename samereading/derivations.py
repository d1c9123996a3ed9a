"""Derivations of the pairs of a growth, written out as rows."""

from samereading.choices import values_at
from samereading.typed import differ


def arguments_of(growth, number):
    """The arguments of the step to a noted pair, each as (number of a settled pair, chain, other chain)."""
    if growth.steps[number] is None:
        return []
    rule, place, other_place = growth.steps[number]
    rows = list(zip(rule.parameters, values_at(growth.kinds, rule.parameters, place)))
    columns = list(zip(rule.other_parameters, values_at(growth.kinds, rule.other_parameters, other_place)))
    found = []
    for typed, other in zip(rows, columns):
        end = growth.numbers[typed]
        other_end = growth.numbers[other]
        origin = growth.origins[end * growth.width + other_end]
        row, column = divmod(origin, growth.width)
        found.append((origin, growth.ends[row][end], growth.other_ends[column][other_end]))
    return found


def needed(growth, last):
    """The numbers of the pairs in the derivation of a noted pair, each behind those that it needs, itself last."""
    found = {}
    waiting = [last]
    while waiting:
        number = waiting.pop()
        for origin, _, _ in arguments_of(growth, number):
            if origin not in found:
                found[origin] = True
                waiting.append(origin)
    return [number for number in growth.settled if number in found] + [last]


def row_of(growth, number, places):
    """The row that derives a noted pair; places tells the rows of the pairs that it needs."""
    if growth.steps[number] is None:
        return ("input",) + growth.cells[number // growth.width]
    rule = growth.steps[number][0]
    rows = [(places[origin], chain, other_chain) for origin, chain, other_chain in arguments_of(growth, number)]
    if rule.head[0] == "cast":
        return rule.head + rule.labels + (rows[0],)
    return rule.head[:2] + rule.labels + (tuple(rows),)


def written_clash(growth, number, end, other_end):
    """The clash whose last row derives a noted pair, and whose chains lead to the typed values with these numbers."""
    order = needed(growth, number)
    places = {inner: at for at, inner in enumerate(order)}
    row, column = divmod(number, growth.width)
    derivation = tuple([row_of(growth, inner, places) for inner in order])
    return (derivation, growth.ends[row][end], growth.other_ends[column][other_end])


def parting_ends(growth, number):
    """The numbers of two different values of one kind to which chains lead from a pair, or None."""
    row, column = divmod(number, growth.width)
    for end in growth.ends[row]:
        for other_end in growth.other_ends[column]:
            if differ(growth.cells[end], growth.cells[other_end]):
                return (end, other_end)
    return None
