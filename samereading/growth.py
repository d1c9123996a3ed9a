"""How the pairs of two libraries follow from one another, those of the smallest expressions first."""

from heapq import heappop, heappush

from samereading.chains import ends_of
from samereading.choices import all_choices
from samereading.typed import differ, typed_values


class Rule:
    """A choice in one library beside a choice in the other one, both at the same call or cast."""

    def __init__(self, head, choice, other_choice):
        self.head = head
        self.labels = (choice[0], other_choice[0])
        self.parameters = choice[1]
        self.other_parameters = other_choice[1]
        self.entries = choice[2]
        self.other_entries = other_choice[2]
        rows = sorted(set(self.entries))
        columns = sorted(set(self.other_entries))
        # The pairs that the rule may still give, or give for a smaller expression.
        self.wanted = [row + column for row in rows for column in columns]


class Growth:
    """A set of pairs that grows until it is closed.

    Typed values are numbered in ascending order, and a pair has the number that its typed values have as the row
    and the column of a square. A pair is noted when an expression is known for it. It is settled when this
    expression is the smallest one. A pair is reached if chains lead to its typed values from a settled pair.
    """

    def __init__(self, one, other):
        self.kinds = one[0]
        self.cells = typed_values(one[0])
        self.width = len(self.cells)
        self.numbers = {typed: number for number, typed in enumerate(self.cells)}
        self.ends = self.numbered_ends(one)
        self.other_ends = self.numbered_ends(other)
        self.sizes = [None] * (self.width * self.width)
        self.steps = [None] * (self.width * self.width)
        self.origins = [None] * (self.width * self.width)
        self.reached = {(kind, column): [] for kind, _ in one[0] for column, _ in one[0]}
        self.uses = {(kind, column): [] for kind, _ in one[0] for column, _ in one[0]}
        self.rules = self.all_rules(one, other)
        self.noted = []
        self.settled = []
        self.parting = None
        self.place_rules()

    def numbered_ends(self, library):
        """For each typed value a dict of those to which chains lead from it, each with one such chain."""
        found = []
        for kind, value in self.cells:
            row = ends_of(library, kind, value)
            found.append({self.numbers[end]: row[end] for end in row})
        return found

    def numbered_choice(self, choice, scale):
        """A choice as (label, parameters, numbers of its entries, multiplied by scale)."""
        label, parameters, result, table = choice
        return (label, parameters, [self.numbers[(result, entry)] * scale for entry in table])

    def all_rules(self, one, other):
        """All rules of two libraries."""
        choices = all_choices(one)
        other_choices = all_choices(other)
        found = []
        for head in choices:
            rows = [self.numbered_choice(choice, self.width) for choice in choices[head]]
            columns = [self.numbered_choice(choice, 1) for choice in other_choices.get(head, [])]
            found.extend([Rule(head, row, column) for row in rows for column in columns])
        return found

    def place_rules(self):
        """Enters each rule where it is used: at the kinds of each of its arguments."""
        for rule in self.rules:
            for at, pair in enumerate(zip(rule.parameters, rule.other_parameters)):
                self.uses[pair].append((rule, at))

    def begin(self, starts):
        """Notes the pairs from which the set grows, then those of literals."""
        for typed, other in starts:
            self.note(self.numbers[typed] * self.width + self.numbers[other], 1, None)
        for rule in self.rules:
            if not rule.parameters:
                self.give(rule, [(0, 0, 1)])

    def note(self, number, size, step):
        """Notes a pair with the size of an expression that is smaller than any known so far."""
        self.sizes[number] = size
        self.steps[number] = step
        heappush(self.noted, (size, number))

    def give(self, rule, rows):
        """Notes what a rule gives for rows of places in both tables, each with the size of the expression."""
        for place, other_place, size in rows:
            number = rule.entries[place] + rule.other_entries[other_place]
            known = self.sizes[number]
            if known is None or size < known:
                self.note(number, size, (rule, place, other_place))

    def grow(self, to_first_clash):
        """Settles pairs, the smallest ones first, until the set is closed or, if wanted, a pair clashes."""
        while self.noted and not (to_first_clash and self.parting is not None):
            size, number = heappop(self.noted)
            # What was noted for a larger expression stands behind the smaller one and is settled already.
            if size == self.sizes[number]:
                self.settle(number)

    def settle(self, number):
        """Makes a pair an argument of further expressions."""
        self.settled.append(number)
        row, column = divmod(number, self.width)
        for end in self.ends[row]:
            for other_end in self.other_ends[column]:
                if self.origins[end * self.width + other_end] is None:
                    self.reach(end, other_end, number)

    def reach(self, end, other_end, origin):
        """Takes up a pair to which chains lead from a settled one."""
        self.origins[end * self.width + other_end] = origin
        kind, value = self.cells[end]
        other_kind, other_value = self.cells[other_end]
        if self.parting is None and differ(self.cells[end], self.cells[other_end]):
            self.parting = (origin, end, other_end)
        argument = (value, other_value, self.sizes[origin])
        self.reached[(kind, other_kind)].append(argument)
        for rule, at in self.uses[(kind, other_kind)]:
            self.apply(rule, at, argument)

    def apply(self, rule, at, argument):
        """Notes what a rule gives with an argument at a place, and with all arguments so far at the other ones."""
        # No later argument is smaller, so what has an expression of at most this size is not wanted any more.
        least = argument[2] + len(rule.parameters)
        rule.wanted = [
            number for number in rule.wanted if self.sizes[number] is None or self.sizes[number] > least
        ]
        if rule.wanted:
            self.give(rule, self.rows_with(rule, at, argument))

    def rows_with(self, rule, at, argument):
        """The rows (place, other place, size) of a rule with an argument at a place."""
        counts = dict(self.kinds)
        rows = [(0, 0, 1)]
        for where, (kind, other_kind) in enumerate(zip(rule.parameters, rule.other_parameters)):
            arguments = [argument] if where == at else self.reached[(kind, other_kind)]
            count = counts[kind]
            other_count = counts[other_kind]
            rows = [
                (place * count + value, other_place * other_count + other_value, size + more)
                for place, other_place, size in rows
                for value, other_value, more in arguments
            ]
        return rows

    def pairs(self):
        """The ascending tuple of the settled pairs."""
        places = [divmod(number, self.width) for number in sorted(self.settled)]
        return tuple([(self.cells[row], self.cells[column]) for row, column in places])
