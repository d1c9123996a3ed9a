"""Goes through the text of an expression, up to its end or to the first character that is wrong."""

from samereading.errors import BadText
from samereading.expressions import MOST_LEVELS, MOST_NODES
from samereading.library import MOST_LETTERS, MOST_PARAMETERS


class Scanner:
    """Goes through the text of an expression for a library and input kinds.

    Each node that has begun has a row (tag, label, places of the rows of its arguments). No row contains another
    one, so the text may open calls and casts within one another as deep as it likes.
    """

    def __init__(self, library, input_kinds, text):
        self.text = text
        self.numbers = [str(number) for number in range(len(input_kinds))]
        self.casts = [name + ">" for name, _ in library[0]]
        self.at = 0
        self.rows = []
        self.unfinished = []
        self.deepest = 0

    def scan(self):
        """Goes through the whole text, which must be that of an expression, of whatever size."""
        self.begin_node()
        while self.unfinished:
            self.go_on()
        if self.at < len(self.text):
            raise BadText(self.at)

    def next_sign(self):
        """The next character, or the empty string at the end of the text."""
        return self.text[self.at:self.at + 1]

    def take(self, options):
        """Takes the longest string of some ones, of which the text must have one here."""
        start = self.at
        while self.at < len(self.text):
            longer = self.text[start:self.at + 1]
            if not any([option.startswith(longer) for option in options]):
                break
            self.at += 1
        found = self.text[start:self.at]
        if found not in options:
            raise BadText(self.at)
        return found

    def take_name(self):
        """Takes a name, which the text must have here."""
        start = self.at
        while self.at < start + MOST_LETTERS and "a" <= self.next_sign() <= "z":
            self.at += 1
        if self.at == start:
            raise BadText(start)
        return self.text[start:self.at]

    def begin_node(self):
        """Takes an input, or a call or a cast up to where its arguments begin."""
        sign = self.next_sign()
        if sign == "#" and self.numbers:
            self.at += 1
            self.enter("input", int(self.take(self.numbers)))
        elif sign == "<":
            self.at += 1
            self.unfinished.append(self.enter("cast", self.take(self.casts)[:-1]))
        else:
            name = self.take_name()
            self.take(["("])
            self.unfinished.append(self.enter("call", name))

    def enter(self, tag, label):
        """Makes the row of a node that begins below the last unfinished one; its place."""
        here = len(self.rows)
        if self.unfinished:
            self.rows[self.unfinished[-1]][2].append(here)
        self.rows.append((tag, label, []))
        self.deepest = max(self.deepest, len(self.unfinished) + 1)
        return here

    def go_on(self):
        """Goes on behind the beginning, or behind an argument, of the last unfinished node."""
        tag, _, places = self.rows[self.unfinished[-1]]
        if self.is_at_end(tag, len(places)):
            self.unfinished.pop()
        else:
            self.begin_node()

    def is_at_end(self, tag, many):
        """Takes what stands behind so many arguments of a node, and tells whether the node ends there."""
        if tag == "cast":
            return many == 1
        if many == 0:
            return self.next_sign() == ")" and self.take([")"]) == ")"
        return self.take([")", ", "] if many < MOST_PARAMETERS else [")"]) == ")"

    def is_too_large(self):
        """Whether the expression has too many nodes or is nested too deep."""
        return len(self.rows) > MOST_NODES or self.deepest > MOST_LEVELS

    def expression(self):
        """The expression that was gone through."""
        done = [()] * len(self.rows)
        for at in reversed(range(len(self.rows))):
            tag, label, places = self.rows[at]
            below = tuple([done[place] for place in places])
            if tag == "call":
                done[at] = (tag, label, below)
            else:
                done[at] = (tag, label) + below
        return done[0]
