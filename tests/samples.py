"""What the tests share: the example libraries, wrong values, and ways to spoil a value."""

import unittest

KINDS = (('bit', 2), ('int', 4))
WIDEN = ('conversion', 'widen', 'bit', 'int', True, (0, 1))
ADDI = ('definition', 'add', ('int', 'int'), 'int', (0, 1, 2, 3, 1, 2, 3, 0, 2, 3, 0, 1, 3, 0, 1, 2))
ADDB = ('definition', 'add', ('bit', 'bit'), 'bit', (0, 1, 1, 0))
WIDE = (KINDS, (WIDEN, ADDI, ADDB), 1)
ONES = (('definition', 'one', (), 'int', (1,)), ('definition', 'one', (), 'bit', (1,)))
BIGS = (('definition', 'big', ('int',), 'bit', (0, 0, 1, 1)), ('definition', 'big', ('bit',), 'bit', (0, 0)))
LITERAL = (KINDS, (ADDI, ADDB) + ONES + BIGS, 0)
SUM = ('call', 'add', (('input', 0), ('input', 1)))

AB = ('conversion', 'ab', 'a', 'b', True, (0,))
BC = ('conversion', 'bc', 'b', 'c', True, (0,))
AC = ('conversion', 'ac', 'a', 'c', True, (0,))
TRIANGLE = ((('a', 1), ('b', 1), ('c', 1)), (AB, BC, AC), 2)


def nested(depth, wrap):
    """A value that is nested so deep, by lists, tuples or dicts."""
    value = wrap(())
    for _ in range(depth - 1):
        value = wrap(value)
    return value


def deep_values(depth):
    return (
        nested(depth, lambda inner: (inner,)),
        nested(depth, lambda inner: [inner]),
        nested(depth, lambda inner: {'bit': inner}),
    )


# None of these may stand in any place of kinds, items, libraries, chains and expressions. The deep ones
# leave room for the value in which they are put: any value is nested at most 30 deep in all.
WRONG = (
    None, -1, 9, 99, 10 ** 30, '', 'Bit', 'bit2', 'b t', 'abcdefghi', 'bit\n', (None,), ((),),
    [], ['bit'], [0], {}, {'bit': 2}, {0: 'bit'}, {'conversion': 'widen'},
) + deep_values(20)

# The same for the value as a whole.
WRONG_WHOLE = WRONG + (0, 1, True, False, (), ((), (), ()), 'bit', 'ab', ('bit',), (0, 1)) + deep_values(30)


def variants(value, change):
    """All values that are the value but for one place, at any depth, for which change gives others."""
    found = list(change(value))
    if isinstance(value, tuple):
        for at, inner in enumerate(value):
            found.extend([value[:at] + (new,) + value[at + 1:] for new in variants(inner, change)])
    return found


def with_wrong(value):
    """The value with a wrong value in one of its places."""
    return variants(value, lambda inner: WRONG)


def with_list(value):
    """The value with a list in place of one of its tuples."""
    return variants(value, lambda inner: [list(inner)] if isinstance(inner, tuple) else [])


def other_truths(inner):
    if isinstance(inner, bool):
        return [int(inner)]
    if isinstance(inner, int) and inner in (0, 1):
        return [bool(inner)]
    return [True, False] if isinstance(inner, int) else []


def with_truth(value):
    """The value with a boolean in place of one of its integers, or 0 or 1 in place of a boolean."""
    return variants(value, other_truths)


def spoiled(value):
    return with_wrong(value) + with_list(value) + with_truth(value)


def other_shapes(inner):
    """The inner value wrapped, and a tuple with one of its parts left out or repeated, or turned round."""
    found = [(inner,), [inner], {0: inner}]
    if isinstance(inner, tuple):
        found.extend([inner[:at] + inner[at + 1:] for at in range(len(inner))])
        found.extend([inner[:at] + inner[at:at + 1] + inner[at:] for at in range(len(inner))])
        found.append(inner[::-1])
    return found


def reshaped(value):
    """The value with parts left out, repeated, wrapped or turned round at one place; some may still be valid."""
    return variants(value, other_shapes)


def cast_chain(depth):
    """An expression of one input under casts, nested so deep."""
    value = ('input', 0)
    for _ in range(depth - 1):
        value = ('cast', 'bit', value)
    return value


def call_chain(depth):
    """An expression of calls with one argument, nested so deep."""
    value = ('call', 'one', ())
    for _ in range(depth - 1):
        value = ('call', 'neg', (value,))
    return value


def bushy(nodes):
    """A shallow expression of so many nodes: calls with up to three arguments, above inputs."""
    if nodes == 1:
        return ('input', 0)
    rest = nodes - 1
    shares = [rest // 3 + (1 if at < rest % 3 else 0) for at in range(3)]
    return ('call', 'f', tuple([bushy(share) for share in shares if share]))


class Checked(unittest.TestCase):
    """A test that calls functions twice and looks at their arguments afterwards."""

    def call(self, function, *values):
        before = repr(values)
        first = function(*values)
        second = function(*values)
        self.assertEqual(before, repr(values))
        self.assertEqual(repr(first), repr(second))
        return first

    def assert_error(self, error, kept, function, *values):
        """The call raises this very error, which keeps these arguments, each time, and leaves its own alone."""
        before = repr(values)
        for _ in range(2):
            with self.assertRaises(error) as found:
                function(*values)
            self.assertIs(type(found.exception), error)
            self.assertEqual(repr(vars(found.exception)), repr(kept))
        self.assertEqual(before, repr(values))

    def assert_true(self, function, *values):
        self.assertIs(self.call(function, *values), True, repr(values))

    def assert_false(self, function, *values):
        self.assertIs(self.call(function, *values), False, repr(values))
