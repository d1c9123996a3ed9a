"""The words of lines: numbers, tables, names and items as they are written, or None for other strings."""

from samereading.library import is_item


def number_written(text, most_digits):
    """The number that a string writes with at most so many digits, or None."""
    if not 1 <= len(text) <= most_digits or not all(["0" <= sign <= "9" for sign in text]):
        return None
    if text[0] == "0" and len(text) > 1:
        return None
    return int(text)


def table_written(text):
    """The tuple of the numbers that a string writes, separated by commas, or None."""
    # All values of kinds have one digit.
    found = [number_written(word, 1) for word in text.split(",")]
    return None if None in found else tuple(found)


def names_written(text):
    """The tuple of the strings that a string has between its commas; it is empty for a hyphen."""
    return () if text == "-" else tuple(text.split(","))


def item_written(kinds, text):
    """The item for these kinds that a string writes, or None."""
    words = text.split(" ")
    if len(words) != 5:
        return None
    first, name, middle, target, last = words
    if first == "definition":
        item = ("definition", name, names_written(middle), target, table_written(last))
    elif first in ("implicit", "explicit"):
        item = ("conversion", name, middle, target, first == "implicit", table_written(last))
    else:
        return None
    return item if is_item(kinds, item) else None
