"""The numbers of the readings of one expression."""

from samereading.chains import chain_end, chains_by_end
from samereading.choices import chosen, node_choices
from samereading.expressions import laid_out


def label_of(reading):
    """The label of the choice that a reading takes at its root."""
    return None if reading[0] == "input" else reading[1]


def written_reading(node, label, arguments, chain):
    """The reading of a node with this choice, these readings of its arguments and this chain."""
    if node[0] == "input":
        return ("input", chain)
    if node[0] == "call":
        return ("call", label, tuple(arguments), chain)
    return ("cast", label, arguments[0], chain)


class Numbering:
    """Counts and numbers the readings of all nodes of an expression; the root is the node at place 0."""

    def __init__(self, library, input_kinds, expression):
        self.whole = library
        self.rows = laid_out(expression)
        self.options = [node_choices(library, input_kinds, node) for node, _ in self.rows]
        self.chains = {kind: chains_by_end(library, kind) for kind, _ in library[0]}
        self.counts = [{} for _ in self.rows]
        for at in reversed(range(len(self.rows))):
            self.counts[at] = self.counts_at(at)

    def below(self, at, option):
        """Each argument of a choice at a place: how many readings it has of the kind that it must have."""
        places = self.rows[at][1]
        return [self.counts[place].get(kind, 0) for place, kind in zip(places, option[1])]

    def ways(self, at, option):
        """In how many ways the arguments of a choice at a place can be read."""
        many = 1
        for count in self.below(at, option):
            many = many * count
        return many

    def counts_at(self, at):
        """How many readings of each kind the node at a place has; kinds without one are left out."""
        found = {}
        for option in self.options[at]:
            many = self.ways(at, option)
            for kind, chains in self.chains[option[2]].items():
                if many > 0:
                    found[kind] = found.get(kind, 0) + many * len(chains)
        return found

    def total(self, target):
        """How many readings of a kind the expression has."""
        return self.counts[0].get(target, 0)

    def taking(self, at, option, target):
        """How many readings of a kind the node at a place has that take a choice."""
        return self.ways(at, option) * len(self.chains[option[2]].get(target, []))

    def choice_at(self, at, target, number):
        """The choice that the reading of a kind with this number takes, and its number among those that do so."""
        rest = number
        for option in self.options[at]:
            many = self.taking(at, option, target)
            if rest < many:
                return (option, rest)
            rest = rest - many
        return None

    def reading(self, target, number):
        """The reading of a kind with a number."""
        wanted = [(target, number)] * len(self.rows)
        taken = []
        for at, (_, places) in enumerate(self.rows):
            end, rest = wanted[at]
            option, rest = self.choice_at(at, end, rest)
            chains = self.chains[option[2]][end]
            # The chain changes fastest, then the last argument, then the one before it.
            rest, last = divmod(rest, len(chains))
            taken.append((option[0], chains[last]))
            for place, kind, many in reversed(list(zip(places, option[1], self.below(at, option)))):
                rest, inner = divmod(rest, many)
                wanted[place] = (kind, inner)
        return self.assembled(taken)

    def assembled(self, taken):
        """The reading that takes at each place the label and the chain that stand there."""
        done = [()] * len(self.rows)
        for at in reversed(range(len(self.rows))):
            node, places = self.rows[at]
            label, chain = taken[at]
            done[at] = written_reading(node, label, [done[place] for place in places], chain)
        return done[0]

    def number(self, reading):
        """The number of a reading among those of its kind."""
        parts = [part for part, _ in laid_out(reading)]
        numbers = [0] * len(parts)
        for at in reversed(range(len(parts))):
            inner = [numbers[place] for place in self.rows[at][1]]
            numbers[at] = self.number_at(at, label_of(parts[at]), inner, parts[at][-1])
        return numbers[0]

    def number_at(self, at, label, inner, chain):
        """The number of the reading of the node at a place whose arguments have these numbers."""
        option = chosen(self.options[at], label)
        target = chain_end(self.whole, option[2], chain)
        number = 0
        for many, place in zip(self.below(at, option), inner):
            number = number * many + place
        chains = self.chains[option[2]][target]
        number = number * len(chains) + chains.index(chain)
        for earlier in self.options[at][:self.options[at].index(option)]:
            number = number + self.taking(at, earlier, target)
        return number
