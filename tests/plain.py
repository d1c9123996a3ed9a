"""The definitions of the document in their plainest form, to compare with: slow, and for small libraries only."""

import itertools


def values_of(library):
    return {kind: range(count) for kind, count in library[0]}


def typed_values(library):
    return [(kind, value) for kind, count in library[0] for value in range(count)]


def conversions(library, is_implicit):
    return [(at, item) for at, item in enumerate(library[1]) if item[0] == 'conversion' and item[4] is is_implicit]


def definitions(library, operator, many):
    return [
        (at, item) for at, item in enumerate(library[1])
        if item[0] == 'definition' and item[1] == operator and len(item[2]) == many
    ]


def chains_from(library, source):
    """All (key of the order, chain, kind) of a kind."""
    found = []

    def go(chain, places, kinds):
        found.append(((len(chain), places), chain, kinds[-1]))
        for at, item in conversions(library, True):
            if item[2] == kinds[-1] and item[3] not in kinds and len(chain) < library[2]:
                go(chain + (item[1],), places + (at,), kinds + (item[3],))

    go((), (), (source,))
    return sorted(found)


def converted(library, names, value):
    for name in names:
        value = [item for item in library[1] if item[0] == 'conversion' and item[1] == name][0][5][value]
    return value


def entry(library, item, values):
    """The entry of a definition for values of its parameters."""
    ranges = [values_of(library)[kind] for kind in item[2]]
    return item[4][list(itertools.product(*ranges)).index(tuple(values))]


def cast_choices(library, kind):
    """All (place, name, source) at a cast to a kind."""
    rows = [(at, item[1], item[2]) for at, item in conversions(library, False) if item[3] == kind]
    return [(-1, None, kind)] + rows


def bare_readings(library, input_kinds, node):
    """All (key of the choice and the arguments, reading without its chain, kind ahead of the chain) of a node."""
    if node[0] == 'input':
        return [((), ('input',), input_kinds[node[1]])]
    found = []
    if node[0] == 'cast':
        rows = readings(library, input_kinds, node[2])
        for at, name, source in cast_choices(library, node[1]):
            found.extend([
                ((at, (key,)), ('cast', name, reading), node[1]) for key, reading, kind in rows if kind == source
            ])
        return found
    rows = [readings(library, input_kinds, child) for child in node[2]]
    for at, item in definitions(library, node[1], len(node[2])):
        fitting = [[row for row in rows[n] if row[2] == kind] for n, kind in enumerate(item[2])]
        for choice in itertools.product(*fitting):
            key = (at, tuple([row[0] for row in choice]))
            found.append((key, ('call', item[2] + (item[3],), tuple([row[1] for row in choice])), item[3]))
    return found


def readings(library, input_kinds, node):
    """All (key of the order, reading, kind) of a node."""
    return [
        ((key, behind), reading + (chain,), end)
        for key, reading, kind in bare_readings(library, input_kinds, node)
        for behind, chain, end in chains_from(library, kind)
    ]


def readings_by_kind(library, input_kinds, node):
    """For each kind the list of all readings of an expression, in their order."""
    found = {kind: [] for kind, _ in library[0]}
    for _, reading, kind in sorted(readings(library, input_kinds, node)):
        found[kind].append(reading)
    return found


def value_of(library, input_kinds, node, reading, inputs):
    if node[0] == 'input':
        value = inputs[node[1]]
    elif node[0] == 'cast':
        value = value_of(library, input_kinds, node[2], reading[2], inputs)
        value = value if reading[1] is None else converted(library, (reading[1],), value)
    else:
        values = [value_of(library, input_kinds, *both, inputs) for both in zip(node[2], reading[2])]
        item = [item for _, item in definitions(library, node[1], len(values)) if item[2] + (item[3],) == reading[1]][0]
        value = entry(library, item, values)
    return converted(library, reading[-1], value)


def ends(library, typed):
    """The set of the typed values to which chains lead."""
    kind, value = typed
    return {(end, converted(library, chain, value)) for _, chain, end in chains_from(library, kind)}


def led(one, other, pairs):
    """The set of the pairs to which chains lead from a set of pairs."""
    return {
        (first, second) for pair in pairs for first in ends(one, pair[0]) for second in ends(other, pair[1])
    }


def calls(library):
    return {(item[1], len(item[2])) for item in library[1] if item[0] == 'definition'}


def demanded(one, other, pairs):
    """The set of all pairs that a closed set with these pairs contains by one step, by the words of section 3."""
    found = {(typed, typed) for typed in typed_values(one)}
    reached = led(one, other, pairs)
    for operator, many in calls(one) & calls(other):
        for _, f in definitions(one, operator, many):
            for _, g in definitions(other, operator, many):
                fitting = [
                    [pair for pair in reached if pair[0][0] == f[2][at] and pair[1][0] == g[2][at]]
                    for at in range(many)
                ]
                for choice in itertools.product(*fitting):
                    first = entry(one, f, [pair[0][1] for pair in choice])
                    second = entry(other, g, [pair[1][1] for pair in choice])
                    found.add(((f[3], first), (g[3], second)))
    for kind in values_of(one):
        for _, name, source in cast_choices(one, kind):
            for _, other_name, other_source in cast_choices(other, kind):
                for (start, value), (other_start, other_value) in reached:
                    if start == source and other_start == other_source:
                        first = converted(one, (name,) if name else (), value)
                        second = converted(other, (other_name,) if other_name else (), other_value)
                        found.add(((kind, first), (kind, second)))
    return found


def is_closed(one, other, pairs):
    return demanded(one, other, pairs) <= set(pairs)


def least_closed(one, other, start=()):
    """The least closed set above some pairs."""
    pairs = set(start)
    while not is_closed(one, other, pairs):
        pairs = pairs | demanded(one, other, pairs)
    return pairs


def clashes(one, other, pair):
    return any([first[0] == second[0] and first[1] != second[1] for first, second in led(one, other, [pair])])


def all_readings_values(library, operator, arguments):
    """The typed values that a call gives for arguments that are sets of typed values, ahead of its chain."""
    led_to = [{end for typed in argument for end in ends(library, typed)} for argument in arguments]
    found = set()
    for _, item in definitions(library, operator, len(arguments)):
        fitting = [[value for kind, value in led_to[at] if kind == item[2][at]] for at in range(len(arguments))]
        found |= {(item[3], entry(library, item, choice)) for choice in itertools.product(*fitting)}
    return frozenset(found)


def all_cast_values(library, kind, argument):
    led_to = {end for typed in argument for end in ends(library, typed)}
    found = set()
    for _, name, source in cast_choices(library, kind):
        found |= {(kind, converted(library, (name,) if name else (), value)) for at, value in led_to if at == source}
    return frozenset(found)


class Behaviours:
    """What expressions can return, by their sizes.

    A behaviour of an expression for some inputs is the set of the typed values of its readings in one and in
    other, ahead of the chain at the root. Every expression is gone through, but of those that behave alike only
    one of the least size is used further.
    """

    def __init__(self, one, other, most=4000):
        self.one, self.other = one, other
        self.calls = sorted(calls(one) & calls(other))
        self.by_size = {0: []}
        self.known = set()
        self.kept = {}
        self.left = most
        self.is_whole = self.fill()

    def fill(self):
        """Goes through all sizes up to which something new can come; whether it came to that end."""
        size = 0
        latest = 1
        while size < 1 + 3 * latest:
            size += 1
            made = self.made(size)
            if self.left < 0:
                return False
            new = sorted(set(made) - self.known, key=lambda both: [sorted(side) for side in both])
            self.by_size[size] = [both for both in new if both[0] and both[1]]
            self.known |= set(self.by_size[size])
            if self.by_size[size]:
                latest = size
        return True

    def made(self, size):
        found = []
        if size == 1:
            found.extend([(frozenset([typed]),) * 2 for typed in typed_values(self.one)])
        for operator, many in self.calls:
            for sizes in itertools.product(range(1, size), repeat=many):
                if sum(sizes) == size - 1:
                    for rows in itertools.product(*[self.by_size[inner] for inner in sizes]):
                        self.left -= 1
                        if self.left < 0:
                            return found
                        found.append(self.call(operator, rows))
        for kind in values_of(self.one):
            for row in self.by_size[size - 1]:
                found.append((all_cast_values(self.one, kind, row[0]), all_cast_values(self.other, kind, row[1])))
        return found

    def call(self, operator, rows):
        return tuple([self.side(library, side, operator, rows) for side, library in enumerate((self.one, self.other))])

    def side(self, library, side, operator, rows):
        key = (side, operator, tuple([row[side] for row in rows]))
        if key not in self.kept:
            self.kept[key] = all_readings_values(library, operator, key[2])
        return self.kept[key]

    def pairs(self):
        return {(first, second) for both in self.known for first in both[0] for second in both[1]}

    def clash_size(self):
        """The least size of an expression whose value can differ among those gone through, or None."""
        for size in sorted(self.by_size):
            for firsts, seconds in self.by_size[size]:
                if any([clashes(self.one, self.other, (f, s)) for f in firsts for s in seconds]):
                    return size
        return None


def expressions(library, many, operators, leaves):
    """All expressions of so many nodes over some leaves."""
    if many == 1:
        return list(leaves) + [('call', operator, ()) for operator in operators]
    below = expressions(library, many - 1, operators, leaves)
    found = [('cast', kind, inner) for kind, _ in library[0] for inner in below]
    for parts in range(1, 4):
        for sizes in itertools.product(range(1, many), repeat=parts):
            if sum(sizes) == many - 1:
                rows = [expressions(library, inner, operators, leaves) for inner in sizes]
                found.extend([('call', op, choice) for op in operators for choice in itertools.product(*rows)])
    return found


def fitting_arguments(one, other, earlier, kind, other_kind):
    """All arguments of a row for two kinds, each with the values to which its chains lead."""
    return [
        ((at, chain, other_chain), converted(one, chain, pair[0][1]), converted(other, other_chain, pair[1][1]))
        for at, pair in enumerate(earlier)
        for _, chain, end in chains_from(one, pair[0][0]) if end == kind
        for _, other_chain, other_end in chains_from(other, pair[1][0]) if other_end == other_kind
    ]


def all_rows(one, other, earlier):
    """All rows that a derivation can have behind rows with these pairs, by how they are written, with their pairs."""
    found = {repr(('input',) + typed): (typed, typed) for typed in typed_values(one)}
    for operator, many in calls(one) & calls(other):
        for _, f in definitions(one, operator, many):
            for _, g in definitions(other, operator, many):
                fitting = [fitting_arguments(one, other, earlier, *both) for both in zip(f[2], g[2])]
                for choice in itertools.product(*fitting):
                    signatures = (f[2] + (f[3],), g[2] + (g[3],))
                    row = ('call', operator) + signatures + (tuple([argument for argument, _, _ in choice]),)
                    first = entry(one, f, [value for _, value, _ in choice])
                    found[repr(row)] = ((f[3], first), (g[3], entry(other, g, [value for _, _, value in choice])))
    for kind in values_of(one):
        for _, name, source in cast_choices(one, kind):
            for _, other_name, other_source in cast_choices(other, kind):
                for argument, value, other_value in fitting_arguments(one, other, earlier, source, other_source):
                    first = converted(one, (name,) if name else (), value)
                    second = converted(other, (other_name,) if other_name else (), other_value)
                    found[repr(('cast', kind, name, other_name, argument))] = ((kind, first), (kind, second))
    return found


class Derivations:
    """Tells derivations and clashes of two small libraries by listing all rows that can follow."""

    def __init__(self, one, other):
        self.one, self.other = one, other
        self.kept = {}

    def rows(self, earlier):
        if earlier not in self.kept:
            self.kept[earlier] = all_rows(self.one, self.other, earlier)
        return self.kept[earlier]

    def pair(self, value):
        if type(value) is not tuple or not value:
            return None
        earlier = ()
        for row in value:
            pair = self.rows(earlier).get(repr(row))
            if pair is None:
                return None
            earlier += (pair,)
        return earlier[-1]

    def is_clash(self, value):
        if type(value) is not tuple or len(value) != 3:
            return False
        pair = self.pair(value[0])
        if pair is None:
            return False
        firsts = [(end, converted(self.one, chain, pair[0][1])) for _, chain, end in chains_from(self.one, pair[0][0])
                  if repr(chain) == repr(value[1])]
        seconds = [(end, converted(self.other, chain, pair[1][1]))
                   for _, chain, end in chains_from(self.other, pair[1][0]) if repr(chain) == repr(value[2])]
        return bool(firsts and seconds and firsts[0][0] == seconds[0][0] and firsts[0][1] != seconds[0][1])
