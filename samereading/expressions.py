"""Expressions: which values they are, what they contain, and how to put them together."""

from samereading.library import MOST_PARAMETERS, is_integer, is_kind, is_name

MOST_NODES = 200
MOST_LEVELS = 25


def is_node(library, input_kinds, value):
    """Whether any value has the form of a node, whatever the expressions below it are."""
    if not isinstance(value, tuple):
        return False
    if len(value) == 2:
        tag, number = value
        return tag == "input" and is_integer(number) and 0 <= number < len(input_kinds)
    if len(value) != 3:
        return False
    tag, name, rest = value
    if tag == "call":
        return is_name(name) and isinstance(rest, tuple) and len(rest) <= MOST_PARAMETERS
    return tag == "cast" and is_kind(library[0], name)


def below(node):
    """The expressions directly below a node, or the readings directly below a reading, from the left."""
    if node[0] == "call":
        return node[2]
    if node[0] == "cast":
        return (node[2],)
    return ()


def is_expression(library, input_kinds, value):
    """Whether any value is an expression that may be passed in."""
    level = [value]
    many = 0
    # Level by level, so that no value is too deep or too large to be told.
    for _ in range(MOST_LEVELS):
        many += len(level)
        if many > MOST_NODES or not all([is_node(library, input_kinds, node) for node in level]):
            return False
        level = [child for node in level for child in below(node)]
        if not level:
            return True
    return False


def levels(expression):
    """The list of the nodes of each level, from the root down, each level from the left."""
    found = []
    level = [expression]
    while level:
        found.append(level)
        level = [child for node in level for child in below(node)]
    return found


def laid_out(root):
    """The nodes of an expression or of a reading, as rows (node, places of the rows of the nodes directly below).

    Each node stands ahead of those below it, and these stand from the left to the right.
    """
    rows = []
    waiting = [(root, None)]
    while waiting:
        node, above = waiting.pop()
        here = len(rows)
        rows.append((node, []))
        if above is not None:
            rows[above][1].append(here)
        waiting.extend([(child, here) for child in reversed(below(node))])
    return rows


def size(expression):
    """How many nodes an expression has."""
    return sum([len(level) for level in levels(expression)])


def height(expression):
    """How deep the nodes of an expression are nested."""
    return len(levels(expression))


def operators_used(expression):
    """The ascending tuple of the operators of an expression."""
    rows = levels(expression)
    return tuple(sorted({node[1] for level in rows for node in level if node[0] == "call"}))


def inputs_used(expression):
    """The ascending tuple of the numbers of the inputs of an expression."""
    rows = levels(expression)
    return tuple(sorted({node[1] for level in rows for node in level if node[0] == "input"}))


def rebuilt(node, children, arguments):
    """The node over other children; an input becomes its argument."""
    if node[0] == "input":
        return arguments[node[1]]
    if node[0] == "call":
        return ("call", node[1], tuple(children))
    return ("cast", node[1], children[0])


def substituted(expression, arguments):
    """The expression with each input replaced by its argument."""
    rows = levels(expression)
    done = []
    # From the deepest level up: what is done is the level below, from the left.
    for level in reversed(rows):
        children = done
        done = []
        start = 0
        for node in level:
            end = start + len(below(node))
            done.append(rebuilt(node, children[start:end], arguments))
            start = end
    return done[0]
