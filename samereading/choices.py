"""The choices at calls and casts: definitions, and explicit conversions or none."""

# A choice is a tuple (label, parameters, result, table). The label is what a reading writes down for it: the
# signature of a definition, the name of a conversion, or None for a cast that only passes its argument on.


def definition_choice(item):
    """The choice of a definition at a call."""
    _, _, parameters, result, table = item
    return (parameters + (result,), parameters, result, table)


def call_choices(library, operator, many):
    """The choices at a call of any value as operator with so many arguments, in order."""
    rows = [item for item in library[1] if item[0] == "definition" and item[1] == operator]
    return [definition_choice(item) for item in rows if len(item[2]) == many]


def cast_choices(library, kind):
    """The choices at a cast to a kind, in order."""
    count = dict(library[0])[kind]
    found = [(None, (kind,), kind, tuple(range(count)))]
    for item in library[1]:
        if item[0] == "conversion" and item[3] == kind and not item[4]:
            found.append((item[1], (item[2],), kind, item[5]))
    return found


def node_choices(library, input_kinds, node):
    """The choices at a node of an expression, in order; an input has one, without a table."""
    if node[0] == "call":
        return call_choices(library, node[1], len(node[2]))
    if node[0] == "cast":
        return cast_choices(library, node[1])
    return [(None, (), input_kinds[node[1]], ())]


def all_choices(library):
    """All choices by where they can be taken: ("call", operator, number of arguments) or ("cast", kind)."""
    found = {}
    for item in library[1]:
        if item[0] == "definition":
            found.setdefault(("call", item[1], len(item[2])), []).append(definition_choice(item))
    for kind, _ in library[0]:
        found[("cast", kind)] = cast_choices(library, kind)
    return found


def chosen(options, label):
    """The one of some choices that has any value as its label, or None."""
    found = [option for option in options if option[0] == label]
    return found[0] if found else None


def place_of(kinds, parameters, values):
    """The place in a table of the entry for these values of the parameters."""
    counts = dict(kinds)
    place = 0
    for parameter, value in zip(parameters, values):
        place = place * counts[parameter] + value
    return place


def values_at(kinds, parameters, place):
    """The values of the parameters to which the entry at a place of a table belongs."""
    counts = dict(kinds)
    found = []
    for parameter in reversed(parameters):
        place, value = divmod(place, counts[parameter])
        found.append(value)
    return list(reversed(found))
