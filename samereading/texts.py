"""Libraries, items and expressions as texts."""

from samereading.errors import BadText
from samereading.expressions import laid_out
from samereading.library import is_items, is_kinds, is_limit
from samereading.scanner import Scanner
from samereading.words import item_written, number_written


def show_table(table):
    """The entries of a table, separated by commas."""
    return ",".join([str(entry) for entry in table])


def show_item(item):
    """The text of an item."""
    if item[0] == "conversion":
        _, name, source, target, is_implicit, table = item
        word = "implicit" if is_implicit else "explicit"
        return f"{word} {name} {source} {target} {show_table(table)}"
    _, operator, parameters, result, table = item
    names = ",".join(parameters) if parameters else "-"
    return f"definition {operator} {names} {result} {show_table(table)}"


def show_library(library):
    """The text of a library."""
    kinds, items, limit = library
    lines = [f"limit {limit}"]
    lines.extend([f"kind {name} {count}" for name, count in kinds])
    lines.extend([show_item(item) for item in items])
    return "\n".join(lines)


def show_node(node, arguments):
    """The text of a node whose arguments have these texts."""
    if node[0] == "input":
        return "#" + str(node[1])
    if node[0] == "call":
        return node[1] + "(" + ", ".join(arguments) + ")"
    return f"<{node[1]}>{arguments[0]}"


def show_expression(expression):
    """The text of an expression."""
    rows = laid_out(expression)
    done = [""] * len(rows)
    for at in reversed(range(len(rows))):
        node, places = rows[at]
        done[at] = show_node(node, [done[place] for place in places])
    return done[0]


def limit_written(line):
    """The limit that the first line of the text of a library writes, or None."""
    words = line.split(" ")
    if len(words) != 2 or words[0] != "limit":
        return None
    limit = number_written(words[1], 1)
    return limit if is_limit(limit) else None


def with_kind(library, words):
    """What a library becomes with a line of these words for a further kind, or None."""
    kinds, items, limit = library
    if items or len(words) != 3:
        return None
    longer = kinds + ((words[1], number_written(words[2], 1)),)
    return (longer, items, limit) if is_kinds(longer) else None


def with_line(library, line):
    """What a library becomes with a further line of its text, or None; it may be without kinds so far."""
    words = line.split(" ")
    if words[0] == "kind":
        return with_kind(library, words)
    kinds, items, limit = library
    item = item_written(kinds, line)
    if item is None or not is_items(kinds, items + (item,)):
        return None
    return (kinds, items + (item,), limit)


def read_library(text):
    """The library that any value writes."""
    lines = text.split("\n") if isinstance(text, str) else [""]
    limit = limit_written(lines[0])
    if limit is None:
        raise BadText(0)
    library = ((), (), limit)
    for number, line in enumerate(lines[1:], start=1):
        library = with_line(library, line)
        if library is None:
            raise BadText(number)
    if not library[0]:
        raise BadText(len(lines))
    return library


def read_item(kinds, text):
    """The item for these kinds that any value writes."""
    item = item_written(kinds, text) if isinstance(text, str) else None
    if item is None:
        raise BadText(0)
    return item


def read_expression(library, input_kinds, text):
    """The expression that any value writes."""
    if not isinstance(text, str):
        raise BadText(0)
    scanner = Scanner(library, input_kinds, text)
    scanner.scan()
    if scanner.is_too_large():
        raise BadText(len(text))
    return scanner.expression()
