"""Many small libraries, and versions of them that differ in a little."""

import random

from samereading.library import is_library


def some_kinds(source):
    return tuple([(letter, source.randint(1, 3)) for letter in 'abc'[:source.randint(1, 3)]])


def some_table(source, length, count):
    return tuple([source.randrange(count) for _ in range(length)])


def some_conversion(source, kinds, name):
    (start, length), (end, count) = source.sample(kinds, 2)
    return ('conversion', name, start, end, source.random() < 0.6, some_table(source, length, count))


def some_definition(source, kinds, operator):
    chosen = [source.choice(kinds) for _ in range(source.choice((0, 0, 1, 1, 1, 2, 2, 3)))]
    length = 1
    for _, count in chosen:
        length *= count
    result, count = source.choice(kinds)
    return ('definition', operator, tuple([kind for kind, _ in chosen]), result, some_table(source, length, count))


def some_item(source, kinds, number):
    if len(kinds) > 1 and source.random() < 0.45:
        return some_conversion(source, kinds, 'x' + 'abcdefghijklmnop'[number])
    return some_definition(source, kinds, source.choice('ffg'))


def some_library(source, most=6):
    kinds = some_kinds(source)
    items = ()
    for number in range(source.randint(0, most)):
        item = some_item(source, kinds, number)
        if is_library((kinds, items + (item,), 0)):
            items += (item,)
    return (kinds, items, source.randint(0, 4))


def without_item(source, library):
    kinds, items, limit = library
    at = source.randrange(len(items)) if items else 0
    return (kinds, items[:at] + items[at + 1:], limit)


def with_item(source, library):
    kinds, items, limit = library
    longer = (kinds, items + (some_item(source, kinds, 15),), limit)
    return longer if is_library(longer) else library


def with_entry(source, library):
    """A version in which one entry of a table is another one."""
    kinds, items, limit = library
    if not items:
        return library
    at = source.randrange(len(items))
    item = items[at]
    count = dict(kinds)[item[3]]
    table = list(item[-1])
    entry = source.randrange(len(table))
    table[entry] = (table[entry] + 1) % count
    return (kinds, items[:at] + (item[:-1] + (tuple(table),),) + items[at + 1:], limit)


def with_limit(source, library):
    return library[:2] + (source.randint(0, 4),)


def with_order(source, library):
    kinds, items, limit = library
    return (kinds, tuple(source.sample(items, len(items))), limit)


VERSIONS = (without_item, with_item, with_entry, with_limit, with_order)


def some_libraries(many, seed, most=6):
    source = random.Random(seed)
    return [some_library(source, most) for _ in range(many)]


def some_versions(many, seed, most=6):
    """Pairs of libraries with the same kinds: a library with itself, and with versions of it, both ways round."""
    source = random.Random(seed)
    found = []
    while len(found) < many:
        library = some_library(source, most)
        change = VERSIONS[len(found) % 5]
        other = change(source, library)
        found.append((library, library))
        found.append((library, other) if source.random() < 0.5 else (other, library))
    return found[:many]


def some_overloads(many, seed):
    """Libraries of definitions alone, with many of one operator: their clashes are larger than those of others."""
    source = random.Random(seed)
    found = []
    for _ in range(many):
        kinds = tuple([(letter, source.randint(1, 3)) for letter in 'abcd'])
        items = ()
        for _ in range(source.randint(8, 24)):
            item = some_definition(source, kinds, source.choice('fghijk'))
            if is_library((kinds, items + (item,), 0)):
                items += (item,)
        found.append((kinds, items, 0))
    return found


def some_busy_libraries(many, seed, most=8):
    """Libraries of few kinds with many items: more of them have clashes, and several at once."""
    source = random.Random(seed)
    found = []
    for _ in range(many):
        kinds = (('a', 2), ('b', 2), ('c', 1))[:source.randint(2, 3)]
        items = ()
        for number in range(source.randint(3, most)):
            item = some_item(source, kinds, number)
            if is_library((kinds, items + (item,), 0)):
                items += (item,)
        found.append((kinds, items, source.randint(0, 4)))
    return found


def some_expression(source, library, input_kinds, levels):
    """An expression for a library, nested at most so deep, often with the operators of the library."""
    choice = source.random()
    if input_kinds and (levels == 1 or choice < 0.25):
        return ('input', source.randrange(len(input_kinds)))
    if levels > 1 and choice < 0.4:
        return ('cast', source.choice(library[0])[0], some_expression(source, library, input_kinds, levels - 1))
    rows = [(item[1], len(item[2])) for item in library[1] if item[0] == 'definition'] + [('no', 0), ('f', 3)]
    operator, length = source.choice(rows)
    inner = [some_expression(source, library, input_kinds, levels - 1) for _ in range(length if levels > 1 else 0)]
    return ('call', operator, tuple(inner))
