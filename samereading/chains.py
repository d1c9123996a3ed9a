"""Chains of implicit conversions."""


def implicit_steps(library):
    """The implicit conversions in order, each as (name, source, target)."""
    rows = [item[1:5] for item in library[1] if item[0] == "conversion"]
    return [(name, source, target) for name, source, target, is_implicit in rows if is_implicit]


def ways_on(steps, kinds):
    """The steps, each as (name, target), by which a chain through these kinds may go on."""
    return [(name, target) for name, source, target in steps if source == kinds[-1] and target not in kinds]


def chains_from(library, source):
    """All chains that begin at a kind, in their order, each with the tuple of the kinds on its way."""
    steps = implicit_steps(library)
    longest = [((), (source,))]
    found = list(longest)
    for _ in range(library[2]):
        # The order stays right: chains of one length are extended in their order, each by the places.
        longest = [
            (chain + (name,), kinds + (target,))
            for chain, kinds in longest
            for name, target in ways_on(steps, kinds)
        ]
        found.extend(longest)
    return found


def chains(library, source, target):
    """All chains from a kind to a kind, in their order."""
    return tuple([chain for chain, kinds in chains_from(library, source) if kinds[-1] == target])


def reached(library, source):
    """The ascending tuple of the kinds to which a chain leads from a kind."""
    return tuple(sorted({kinds[-1] for _, kinds in chains_from(library, source)}))


def follow(library, chain, value):
    """The value to which a chain leads from a value."""
    tables = {item[1]: item[5] for item in library[1] if item[0] == "conversion"}
    for name in chain:
        value = tables[name][value]
    return value


def is_chain(library, source, value):
    """Whether any value is a chain that begins at this kind."""
    if not isinstance(value, tuple) or len(value) > library[2]:
        return False
    steps = implicit_steps(library)
    kinds = (source,)
    for name in value:
        targets = [target for step, target in ways_on(steps, kinds) if step == name]
        if not targets:
            return False
        kinds = kinds + (targets[0],)
    return True
