"""Chains of implicit conversions."""


def implicit_steps(library):
    """The implicit conversions in order, each as (name, source, target)."""
    rows = [item[1:5] for item in library[1] if item[0] == "conversion"]
    return [(name, source, target) for name, source, target, is_implicit in rows if is_implicit]


def ways_on(steps, kinds):
    """The steps, each as (name, target), by which a chain through these kinds may go on."""
    return [(name, target) for name, source, target in steps if source == kinds[-1] and target not in kinds]


def chains_from(library, source):
    """All chains that begin at a kind, in their order, each with the tuple of the kinds on its way."""
    steps = implicit_steps(library)
    longest = [((), (source,))]
    found = list(longest)
    for _ in range(library[2]):
        # The order stays right: chains of one length are extended in their order, each by the places.
        longest = [
            (chain + (name,), kinds + (target,))
            for chain, kinds in longest
            for name, target in ways_on(steps, kinds)
        ]
        found.extend(longest)
    return found


def chains(library, source, target):
    """All chains from a kind to a kind, in their order."""
    return tuple([chain for chain, kinds in chains_from(library, source) if kinds[-1] == target])


def reached(library, source):
    """The ascending tuple of the kinds to which a chain leads from a kind."""
    return tuple(sorted({kinds[-1] for _, kinds in chains_from(library, source)}))


def chain_end(library, source, chain):
    """The kind to which a chain leads from a kind."""
    targets = {item[1]: item[3] for item in library[1] if item[0] == "conversion"}
    return targets[chain[-1]] if chain else source


def follow(library, chain, value):
    """The value to which a chain leads from a value."""
    tables = {item[1]: item[5] for item in library[1] if item[0] == "conversion"}
    for name in chain:
        value = tables[name][value]
    return value


def is_chain(library, source, value):
    """Whether any value is a chain that begins at this kind."""
    if not isinstance(value, tuple) or len(value) > library[2]:
        return False
    steps = implicit_steps(library)
    kinds = (source,)
    for name in value:
        targets = [target for step, target in ways_on(steps, kinds) if step == name]
        if not targets:
            return False
        kinds = kinds + (targets[0],)
    return True


def chains_by_end(library, source):
    """A dict of the kinds to which chains lead from a kind, each with the list of these chains in their order."""
    found = {}
    for chain, kinds in chains_from(library, source):
        found.setdefault(kinds[-1], []).append(chain)
    return found


def longer_ends(steps, ends):
    """The ends of the chains that are longer by one conversion, each with one such chain."""
    found = {}
    for (kinds, kind, value), chain in ends.items():
        for name, source, target, table in steps:
            if source == kind and target not in kinds:
                end = (tuple(sorted(kinds + (target,))), target, table[value])
                found.setdefault(end, chain + (name,))
    return found


def ends_of(library, source, value):
    """A dict of the typed values to which chains lead from a value of a kind, each with one such chain."""
    rows = [item[1:] for item in library[1] if item[0] == "conversion"]
    steps = [(name, start, target, table) for name, start, target, is_implicit, table in rows if is_implicit]
    found = {(source, value): ()}
    # How a chain can go on depends on its kinds, in whatever order, and on its end: there may be thousands of
    # chains, but there are few of these.
    ends = {((source,), source, value): ()}
    for _ in range(library[2]):
        ends = longer_ends(steps, ends)
        for (_, kind, end), chain in ends.items():
            found.setdefault((kind, end), chain)
    return found
