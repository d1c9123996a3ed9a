import itertools

from samereading.clashes import clash, clash_size, derived_pair, row_sizes, shows_clash, unfolded
from samereading.errors import DifferentKinds, TooLarge
from samereading.expressions import height, inputs_used, is_expression, operators_used, size
from samereading.readings import (
    kinds_of, reading_at, reading_count, reading_kind, reading_number, results, value_of,
)
from samereading.relation import agree, pairs
from tests import plain
from tests.samples import KINDS, LITERAL, ONES, SUM, WIDE, WIDEN, WRONG_WHOLE, Checked, spoiled, variants
from tests.small import some_overloads, some_versions
from tests.test_relation import OTHER_KINDS

ROWS = (
    ('input', 'bit', 1),
    ('call', 'add', ('int', 'int', 'int'), ('bit', 'bit', 'bit'), ((0, ('widen',), ()), (0, ('widen',), ()))),
)
CLASH = (ROWS, (), ('widen',))
BAR = ('definition', 'neg', ('bit',), 'bit', (1, 0))
NEG = ('definition', 'neg', ('int',), 'int', (0, 3, 2, 1))
TWO = (KINDS, (BAR, NEG, WIDEN), 1)
SAME = (KINDS, (
    WIDEN, ('definition', 'same', ('bit', 'bit'), 'bit', (0,) * 4),
    ('definition', 'same', ('int', 'int'), 'int', (3,) * 16),
), 1)

# Implicit and explicit conversions between three kinds, chains up to two steps, two definitions of one operator.
STEPS = (
    (('a', 2), ('b', 2), ('c', 2)),
    (
        ('conversion', 'ab', 'a', 'b', True, (0, 1)), ('conversion', 'bc', 'b', 'c', True, (1, 0)),
        ('conversion', 'ca', 'c', 'a', True, (0, 0)), ('conversion', 'xac', 'a', 'c', False, (1, 1)),
        ('definition', 'f', ('b', 'c'), 'a', (0, 1, 1, 0)), ('definition', 'f', ('a', 'a'), 'b', (1, 1, 0, 0)),
        ('definition', 'one', (), 'a', (1,)),
    ),
    2,
)
STEPS_OTHER = (
    STEPS[0],
    STEPS[1][:4] + (
        ('conversion', 'xbc', 'b', 'c', False, (0, 1)), ('definition', 'f', ('b', 'c'), 'a', (0, 1, 1, 1)),
        ('definition', 'one', (), 'b', (1,)), ('definition', 'two', (), 'b', (1,)),
    ),
    1,
)


def neg_rows(many):
    """Rows of a clash of TWO: a call whose two definitions differ, below casts, so that the last has that size."""
    rows = [('input', 'bit', 1), ('call', 'neg', ('bit', 'bit'), ('int', 'int'), ((0, (), ('widen',)),))]
    if many > 2:
        rows.append(('cast', 'int', None, None, (1, ('widen',), ())))
    for at in range(3, many):
        rows.append(('cast', 'int', None, None, (at - 1, (), ())))
    return tuple(rows)


def neg_clash(many):
    return (neg_rows(many), () if many > 2 else ('widen',), ())


def doubled_rows(times):
    """Rows of a derivation for WIDE, each of which uses the one before it twice."""
    rows = [('input', 'bit', 1)]
    for at in range(times):
        rows.append(('call', 'add', ('bit', 'bit', 'bit'), ('bit', 'bit', 'bit'), ((at, (), ()), (at, (), ()))))
    return tuple(rows)


def doubled_clash(times):
    """A clash of SAME whose rows use twice the one before, so that the last has the size 2 ** (times + 2) - 1."""
    rows = [('input', 'bit', 1)]
    for at in range(times + 1):
        below = ((at, (), ('widen',) if at == 0 else ()),) * 2
        rows.append(('call', 'same', ('bit', 'bit', 'bit'), ('int', 'int', 'int'), below))
    return (tuple(rows), ('widen',), ())


def inputs_from_the_left(expression):
    if expression[0] == 'input':
        return [expression[1]]
    children = expression[2] if expression[0] == 'call' else (expression[2],)
    return [number for child in children for number in inputs_from_the_left(child)]


def expected_expression(rows, at, used):
    """The expression of a row; the numbers of the input rows that it uses are added to used."""
    row = rows[at]
    if row[0] == 'input':
        used.append(at)
        return ('input', len(used) - 1)
    if row[0] == 'cast':
        return ('cast', row[1], expected_expression(rows, row[4][0], used))
    return ('call', row[1], tuple([expected_expression(rows, argument[0], used) for argument in row[4]]))


class Unfolding(Checked):

    def assert_unfolds(self, one, other, value):
        """What unfolded returns is as section 9 says, and may be passed on."""
        rows = value[0]
        input_kinds, expression, reading, other_reading, inputs = self.call(unfolded, one, other, value)
        used = []
        self.assertEqual(expression, expected_expression(rows, len(rows) - 1, used))
        self.assertEqual(inputs_from_the_left(expression), list(range(len(inputs))))
        self.assertEqual(input_kinds, tuple([rows[at][1] for at in used]))
        self.assertEqual(inputs, tuple([rows[at][2] for at in used]))
        self.assertEqual(size(expression), row_sizes(rows)[-1])
        task, other_task = (one, input_kinds, expression), (other, input_kinds, expression)
        kind = reading_kind(*task, reading)
        self.assertIsNotNone(kind)
        self.assertEqual(reading_kind(*other_task, other_reading), kind)
        first, second = value_of(*task, reading, inputs), value_of(*other_task, other_reading, inputs)
        self.assertNotEqual(first, second)
        self.assertIn(first, results(*task, kind, inputs))
        self.assertIn(second, results(*other_task, kind, inputs))
        self.assertIn(kind, kinds_of(*task))
        number = reading_number(*task, reading)
        self.assertTrue(number < reading_count(*task, kind))
        self.assertEqual(reading_at(*task, kind, number), reading)
        deep = size(expression) <= 200 and height(expression) <= 25
        self.assertIs(is_expression(one, input_kinds, expression), deep)
        return expression


class ClashTest(Unfolding):

    def test_examples(self):
        sizes = [clash_size(WIDE, WIDE), clash_size(LITERAL, LITERAL), clash_size(WIDE, (KINDS, (), 0))]
        self.assertEqual(sizes, [3, 4, None])
        self.assert_true(shows_clash, WIDE, WIDE, CLASH)
        self.assertEqual(self.call(unfolded, WIDE, WIDE, CLASH)[1], SUM)
        expected = ('call', 'big', (('call', 'add', (('call', 'one', ()), ('call', 'one', ()))),))
        self.assertEqual(unfolded(LITERAL, LITERAL, clash(LITERAL, LITERAL))[1], expected)
        cast = (('input', 'bit', 1), ('cast', 'int', None, None, (0, ('widen',), ('widen',))))
        self.assertEqual(self.call(derived_pair, WIDE, WIDE, cast), (('int', 1), ('int', 1)))
        call = ('call', 'add', ('bit', 'bit', 'bit'), ('bit', 'bit', 'bit'), ((0, (), ()), (0, (), ())))
        self.assertEqual(self.call(row_sizes, (('input', 'bit', 1), call)), (1, 3))
        self.assert_false(shows_clash, WIDE, WIDE, ((('input', 'bit', 1),), (), ('widen',)))
        self.assertIsNone(self.call(clash, WIDE, (KINDS, (), 0)))

    def test_unfolded_written_out(self):
        found = unfolded(WIDE, WIDE, CLASH)
        widened = ('call', ('int', 'int', 'int'), (('input', ('widen',)), ('input', ('widen',))), ())
        narrow = ('call', ('bit', 'bit', 'bit'), (('input', ()), ('input', ())), ('widen',))
        self.assertEqual(found, (('bit', 'bit'), SUM, widened, narrow, (1, 1)))

    def test_least_size_of_many_libraries(self):
        found = {}
        whole = 0
        for one, other in some_versions(500, 41):
            behaviours = plain.Behaviours(one, other)
            least = self.call(clash_size, one, other)
            value = self.call(clash, one, other)
            if behaviours.is_whole or behaviours.clash_size() is not None:
                self.assertEqual(least, behaviours.clash_size(), (one, other))
                whole += 1
            self.assertEqual(value is None, least is None)
            self.assertEqual(value is None, agree(one, other))
            if value is not None:
                self.assert_true(shows_clash, one, other, value)
                self.assertEqual(row_sizes(value[0])[-1], least)
                self.assertEqual(derived_pair(one, other, value[0]) in pairs(one, other), True)
                self.assert_unfolds(one, other, value)
            found[least] = found.get(least, 0) + 1
        self.assertGreater(whole, 450)
        self.assertTrue(all([found.get(least, 0) > 2 for least in (None, 1, 2, 3)]))

    def test_least_size_of_larger_clashes(self):
        many = 0
        for one, other in some_versions(3000, 42, 7):
            least = clash_size(one, other)
            if least is not None and least > 3:
                behaviours = plain.Behaviours(one, other)
                if behaviours.is_whole or behaviours.clash_size() is not None:
                    self.assertEqual(behaviours.clash_size(), least, (one, other))
                    many += 1
                value = clash(one, other)
                self.assertTrue(shows_clash(one, other, value))
                self.assertEqual(row_sizes(value[0])[-1], least)
                self.assert_unfolds(one, other, value)
        self.assertGreater(many, 10)

    def test_least_size_of_overloaded_operators(self):
        found = {}
        for one in some_overloads(800, 44):
            least = clash_size(one, one)
            if least is not None:
                behaviours = plain.Behaviours(one, one, 4000 if least > 4 else 1000)
                expected = (least,) if behaviours.is_whole else (None, least)
                self.assertIn(behaviours.clash_size(), expected, one)
                found[behaviours.clash_size()] = True
                value = clash(one, one)
                self.assertTrue(shows_clash(one, one, value))
                self.assert_unfolds(one, one, value)
        self.assertTrue(all([least in found for least in (2, 3, 4, 5)]))

    def test_the_cheaper_way_is_found_later(self):
        # The pair of 3 and 3 is found at once by p(d, d, d), of 4 nodes, and later by g(e(d)), of 3 nodes.
        kinds = (('a', 4), ('b', 4), ('c', 2))
        items = {}
        for kind in 'ab':
            items[kind] = (
                ('definition', 'd', (), kind, (0,)), ('definition', 'p', (kind,) * 3, kind, (3,) + (0,) * 63),
                ('definition', 'e', (kind,), kind, (1, 1, 1, 1)), ('definition', 'g', (kind,), kind, (0, 3, 0, 0)),
            )
        ends = (('definition', 'out', ('a',), 'c', (0, 0, 0, 1)), ('definition', 'out', ('b',), 'c', (0, 0, 0, 0)))
        for left_out, expected in (((), 4), (('g',), 5), (('p',), 4), (('e',), 5), (('e', 'p'), None), (('d',), None)):
            one, other = [
                (kinds, tuple([item for item in items[kind] if item[1] not in left_out]) + (end,), 0)
                for kind, end in zip('ab', ends)
            ]
            for both in ((one, other), (other, one)):
                self.assertEqual(clash_size(*both), expected)
                value = clash(*both)
                self.assertEqual(value is None, expected is None)
                if value is not None:
                    self.assertEqual(row_sizes(value[0])[-1], expected)
                    self.assert_unfolds(*both, value)

    def test_the_cheaper_way_to_the_only_pair_of_an_operator(self):
        # As above, but p and g can give one pair alone, and w(d, d, d) of another kind is found in between.
        kinds = (('a', 2), ('b', 1), ('c', 1), ('d', 1), ('e', 1), ('f', 1))
        for parts in range(1, 4):
            for steps in range(1, 4):
                one = [('definition', 'z', (), 'b', (0,)), ('definition', 'p', ('b',) * parts, 'd', (0,))]
                other = [('definition', 'z', (), 'c', (0,)), ('definition', 'p', ('c',) * parts, 'e', (0,))]
                for at, name in enumerate(('s', 't', 'u')[:steps]):
                    source, target = ('b', 'f')[at % 2], 'd' if at == steps - 1 else ('f', 'b')[at % 2]
                    one.append(('definition', name, (source,), target, (0,)))
                    other.append(('definition', name, ('c',), 'e' if at == steps - 1 else 'c', (0,)))
                one.append(('definition', 'out', ('d',), 'a', (0,)))
                other.append(('definition', 'out', ('e',), 'a', (1,)))
                for items, more in ((one, other), (one[::-1], other[::-1])):
                    both = (kinds, tuple(items), 0), (kinds, tuple(more), 0)
                    behaviours = plain.Behaviours(*both)
                    self.assertIs(behaviours.is_whole, True)
                    self.assertEqual(clash_size(*both), behaviours.clash_size())
                    self.assertEqual(row_sizes(clash(*both)[0])[-1], behaviours.clash_size())

    def test_two_ways_to_the_same_pair_of_which_both_are_shown(self):
        long = (
            ('input', 'bit', 1), ROWS[1], ('cast', 'int', None, None, (1, (), ('widen',))),
            ('cast', 'int', None, None, (2, (), ())),
        )
        self.assertEqual(derived_pair(WIDE, WIDE, long), derived_pair(WIDE, WIDE, long[:3]))
        for rows in (long, long[:3]):
            self.assert_true(shows_clash, WIDE, WIDE, (rows, (), ()))
            self.assert_unfolds(WIDE, WIDE, (rows, (), ()))

    def test_definitions_in_one_library_alone(self):
        one = (KINDS, ONES + (BAR,), 1)
        self.assertIsNone(clash(one, (KINDS, (), 1)))
        self.assertIsNone(clash((KINDS, (), 1), one))
        self.assertIsNone(clash((KINDS, ONES[:1], 1), (KINDS, ONES[1:], 0)))
        other = (KINDS, (WIDEN, ('definition', 'one', (), 'bit', (0,))), 1)
        self.assertEqual(clash_size((KINDS, ONES[:1], 1), other), 1)

    def test_exact_size_of_a_large_clash(self):
        one, other = counting_libraries()
        self.assertEqual(clash_size(one, other), 2 ** 36)
        self.assertEqual(clash_size(other, one), 2 ** 36)
        value = clash(one, other)
        self.assertTrue(shows_clash(one, other, value))
        self.assertEqual(row_sizes(value[0])[-1], 2 ** 36)
        with self.assertRaises(TooLarge) as caught:
            unfolded(one, other, value)
        self.assertEqual(caught.exception.size, 2 ** 36)


def counting_libraries():
    """Two libraries whose least clash has 2 ** 36 nodes.

    In one, a value goes on by 1 only if both arguments have it, and from its last value a kind goes on to the
    next kind. In other, all of this is of one value of another kind, up to the last operator.
    """
    kinds = tuple([(letter, 8) for letter in 'abcde']) + (('o', 2),)
    every = list(itertools.product(range(8), repeat=2))
    first = [('definition', 'z', (), 'a', (0,))]
    first.append(('definition', 'd', ('a', 'a'), 'a', tuple([x + 1 if x == y < 7 else 0 for x, y in every])))
    for kind in 'bcde':
        table = tuple([x + 1 if x == y < 6 else 7 for x, y in every])
        first.append(('definition', 'd', (kind, kind), kind, table))
    for kind, following, last in (('a', 'b', 7), ('b', 'c', 6), ('c', 'd', 6), ('d', 'e', 6)):
        table = tuple([0 if x == y == last else 7 for x, y in every])
        first.append(('definition', 'h', (kind, kind), following, table))
    first.append(('definition', 'out', ('e',), 'o', (0, 0, 0, 0, 0, 0, 1, 0)))
    second = (
        ('definition', 'z', (), 'o', (0,)), ('definition', 'd', ('o', 'o'), 'o', (0,) * 4),
        ('definition', 'h', ('o', 'o'), 'o', (0,) * 4), ('definition', 'out', ('o',), 'o', (0, 0)),
    )
    return (kinds, tuple(first), 0), (kinds, second, 0)


class RowsTest(Checked):

    def assert_pair(self, expected, *rows):
        self.assertEqual(self.call(derived_pair, STEPS, STEPS_OTHER, rows), expected)
        if expected is not None:
            self.assertIn(expected, pairs(STEPS, STEPS_OTHER))

    def test_rows_written_out(self):
        start = ('input', 'a', 1)
        self.assert_pair((('a', 1), ('a', 1)), start)
        self.assert_pair((('c', 1), ('c', 1)), start, ('cast', 'c', 'xac', 'xbc', (0, (), ('ab',))))
        self.assert_pair((('c', 0), ('c', 1)), start, ('cast', 'c', None, 'xac', (0, ('ab', 'bc'), ())))
        self.assert_pair((('a', 1), ('b', 1)), start, ('call', 'one', ('a',), ('b',), ()))
        call = ('call', 'f', ('b', 'c', 'a'), ('b', 'c', 'a'), ((0, ('ab',), ('ab',)), (1, ('bc',), ('bc',))))
        self.assert_pair((('a', 1), ('a', 1)), start, ('input', 'b', 1), call)
        call = ('call', 'f', ('a', 'a', 'b'), ('b', 'c', 'a'), ((0, (), ('ab',)), (1, (), ())))
        self.assert_pair(None, start, ('input', 'c', 1), call)
        call = call[:4] + (((0, (), ('ab',)), (1, ('ca',), ())),)
        self.assert_pair((('b', 0), ('a', 1)), start, ('input', 'c', 1), call)

    def test_wrong_row_numbers(self):
        start = ('input', 'a', 1)
        for number in (-1, 1, 2, 10 ** 30, True, False, None, '0', (0,), [0], {}):
            row = ('cast', 'a', None, None, (number, (), ()))
            self.assert_pair(None, start, row)
            self.assert_pair(None, start, row, ('input', 'a', 1))
            call = ('call', 'f', ('a', 'a', 'b'), ('b', 'c', 'a'), ((0, (), ('ab',)), (number, (), ('ab',))))
            self.assert_pair(None, start, call)
        self.assert_pair((('a', 1), ('a', 1)), start, ('cast', 'a', None, None, (0, (), ())))
        self.assert_pair(None, ('cast', 'a', None, None, (0, (), ())))
        self.assert_pair(None, ('cast', 'a', None, None, (0, (), ())), start)

    def test_wrong_chains(self):
        start = ('input', 'a', 1)
        good = ('cast', 'c', None, None, (0, ('ab', 'bc'), ('ab',)))
        self.assert_pair(None, start, good)
        other_way = ('cast', 'b', None, None, (0, ('ab',), ('ab',)))
        self.assert_pair((('b', 1), ('b', 1)), start, other_way)
        wrong = (('ab', 'bc', 'ca'), ('xac',), ('ca',), ('bc',), (), ('ab', 'ab'), ['ab'], 'ab', None, ('AB',), (0,))
        for chain in wrong:
            self.assert_pair(None, start, ('cast', 'b', None, None, (0, chain, ('ab',))))
            self.assert_pair(None, start, ('cast', 'b', None, None, (0, ('ab',), chain)))
        # The limit of one is 2 and that of other is 1.
        self.assert_pair(None, ('input', 'b', 1), ('cast', 'a', None, None, (0, ('bc', 'ca'), ('bc', 'ca'))))
        both = ('input', 'c', 0), ('cast', 'a', None, None, (0, ('ca',), ('ca',)))
        self.assert_pair((('a', 0), ('a', 0)), *both)
        rows = (('input', 'b', 1), ('cast', 'a', None, None, (0, ('bc', 'ca'), ('bc', 'ca'))))
        self.assertEqual(derived_pair(STEPS, STEPS, rows), (('a', 0), ('a', 0)))

    def test_signatures_that_one_library_has_and_the_other_has_not(self):
        start = ('input', 'a', 1)
        arguments = ((0, (), ()), (0, (), ()))
        row = ('call', 'f', ('a', 'a', 'b'), ('a', 'a', 'b'), arguments)
        self.assertIsNone(derived_pair(STEPS, STEPS_OTHER, (start, row)))
        self.assertIsNone(derived_pair(STEPS_OTHER, STEPS, (start, row)))
        self.assertEqual(derived_pair(STEPS, STEPS, (start, row)), (('b', 0), ('b', 0)))
        cast = ('cast', 'c', 'xbc', 'xbc', (0, ('ab',), ('ab',)))
        self.assertEqual(derived_pair(STEPS_OTHER, STEPS_OTHER, (start, cast)), (('c', 1), ('c', 1)))
        self.assertIsNone(derived_pair(STEPS, STEPS_OTHER, (start, cast)))
        self.assertIsNone(derived_pair(STEPS_OTHER, STEPS, (start, cast)))
        two = (('call', 'two', ('b',), ('b',), ()),)
        self.assertIsNone(derived_pair(STEPS, STEPS_OTHER, two))
        self.assertEqual(derived_pair(STEPS_OTHER, STEPS_OTHER, two), (('b', 1), ('b', 1)))

    def test_an_implicit_conversion_is_none_for_a_cast(self):
        row = ('cast', 'b', 'ab', 'ab', (0, (), ()))
        self.assert_pair(None, ('input', 'a', 1), row)
        self.assert_pair(None, ('input', 'a', 1), ('cast', 'c', 'bc', None, (0, ('ab',), ('ab',))))
        self.assert_pair(None, ('input', 'a', 1), ('cast', 'b', 'xac', 'xac', (0, (), ())))
        self.assert_pair(None, ('input', 'a', 1), ('cast', 'd', None, None, (0, (), ())))

    def test_no_rows_and_one_row(self):
        self.assertIsNone(derived_pair(WIDE, WIDE, ()))
        self.assertIsNone(derived_pair(WIDE, WIDE, []))
        self.assertEqual(derived_pair(WIDE, WIDE, (('input', 'int', 3),)), (('int', 3), ('int', 3)))
        for row in (('input', 'int', 4), ('input', 'bit', True), ('input', 'bit', -1), ('input', 'word', 0),
                    ('input', 'bit'), ('input', 'bit', 0, 0), ['input', 'bit', 0], ('input', ('bit', 0)), (), None, 0):
            self.assertIsNone(self.call(derived_pair, WIDE, WIDE, (row,)))
            self.assertIsNone(self.call(derived_pair, WIDE, WIDE, (row, ('input', 'bit', 0))))

    def test_rows_that_no_later_row_uses(self):
        unused = ('call', 'add', ('int', 'int', 'int'), ('int', 'int', 'int'), ((0, ('widen',), ('widen',)),) * 2)
        rows = (ROWS[0], unused, ('input', 'int', 2), ROWS[1])
        self.assertEqual(derived_pair(WIDE, WIDE, rows), derived_pair(WIDE, WIDE, ROWS))
        self.assert_true(shows_clash, WIDE, WIDE, (rows, (), ('widen',)))
        self.assertEqual(unfolded(WIDE, WIDE, (rows, (), ('widen',))), unfolded(WIDE, WIDE, CLASH))
        self.assertEqual(row_sizes(rows), (1, 3, 1, 3))
        wrong = (ROWS[0], unused[:4] + (unused[4][:1],), ROWS[1])
        self.assertIsNone(derived_pair(WIDE, WIDE, wrong))

    def test_a_pair_twice(self):
        rows = (ROWS[0], ROWS[0], ROWS[1], ROWS[1][:4] + (((0, ('widen',), ()), (1, ('widen',), ())),))
        self.assert_true(shows_clash, WIDE, WIDE, (rows, (), ('widen',)))
        self.assertEqual(unfolded(WIDE, WIDE, (rows, (), ('widen',)))[1], SUM)

    def test_any_value_as_derivation_or_clash(self):
        changed = 0
        for one, other in some_versions(60, 43):
            value = clash(one, other)
            if value is None or len(value[0]) > 3:
                continue
            told = plain.Derivations(one, other)
            others = [list(value), value[0], value + ((),), value[:2], (value,)]
            for new in [value] + spoiled(value) + swapped(value) + others:
                self.assertIs(self.call(shows_clash, one, other, new), told.is_clash(new), new)
            for new in [value[0]] + spoiled(value[0]) + swapped(value[0]):
                self.assertEqual(self.call(derived_pair, one, other, new), told.pair(new), new)
                changed += 1
        self.assertGreater(changed, 2000)

    def test_any_value_with_rich_libraries(self):
        start, last = ('input', 'a', 1), ('input', 'c', 1)
        call = ('call', 'f', ('a', 'a', 'b'), ('b', 'c', 'a'), ((0, (), ('ab',)), (1, ('ca',), ())))
        cast = ('cast', 'c', 'xac', 'xbc', (0, (), ('ab',)))
        told = plain.Derivations(STEPS, STEPS_OTHER)
        derivations = ((start, last, call), (start, cast), (start, last, call, cast))
        kept = 0
        for rows in derivations:
            self.assertIsNotNone(told.pair(rows))
            for new in spoiled(rows) + swapped(rows):
                found = self.call(derived_pair, STEPS, STEPS_OTHER, new)
                self.assertEqual(found, told.pair(new), new)
                kept += found is not None
            for chain, other_chain in itertools.product(((), ('ab',), ('bc',), ('ab', 'bc'), ['ab'], None), repeat=2):
                value = (rows, chain, other_chain)
                self.assertIs(self.call(shows_clash, STEPS, STEPS_OTHER, value), told.is_clash(value))
        self.assertGreater(kept, 20)

    def test_wrong_values(self):
        for value in WRONG_WHOLE + (WIDE, KINDS, ROWS[0], ROWS[1], SUM, pairs(WIDE, WIDE), CLASH):
            self.assertIsNone(self.call(derived_pair, WIDE, WIDE, value))
        for value in WRONG_WHOLE + (WIDE, KINDS, ROWS, SUM, pairs(WIDE, WIDE), (CLASH,)):
            self.assert_false(shows_clash, WIDE, WIDE, value)

    def test_deep_and_large_values(self):
        deep = ()
        for _ in range(3000):
            deep = (deep, deep, deep)
        last = (ROWS + (deep,), (), ('widen',))
        for value in (deep, (deep,), (deep, (), ()), (ROWS, deep, ()), (ROWS, (), deep), last):
            self.assertIsNone(derived_pair(WIDE, WIDE, value))
            self.assertIs(shows_clash(WIDE, WIDE, value), False)
        row = ('call', deep, deep, deep, deep)
        for value in ((row,), (('cast', deep, deep, deep, deep),), (('input', deep, deep),), (('input', 'bit', deep),)):
            self.assertIsNone(derived_pair(WIDE, WIDE, value))
        self.assertEqual(derived_pair(WIDE, WIDE, ROWS[:1] * 5000), (('bit', 1), ('bit', 1)))


def swapped(value):
    """The value with other valid parts in its places: other names, kinds, numbers, parts twice or left out."""
    def others(inner):
        if isinstance(inner, str):
            return [word for word in ('a', 'b', 'c', 'f', 'one', 'ab', 'bc', 'xac', 'xbc') if word != inner] + [None]
        if isinstance(inner, int):
            return [inner + 1, inner - 1]
        if isinstance(inner, tuple):
            cut = [inner[:at] + inner[at + 1:] for at in range(len(inner))]
            return cut + [inner + inner[-1:], inner[::-1], (inner,), ()]
        return ['xac', 'xbc', 'ab']
    return variants(value, others)


class UnfoldedTest(Unfolding):

    def test_one_input_for_each_use_from_the_left(self):
        rows = (
            ('input', 'int', 2), ('input', 'bit', 1), ('input', 'bit', 0),
            ('call', 'add', ('bit', 'bit', 'bit'), ('bit', 'bit', 'bit'), ((2, (), ()), (1, (), ()))),
            ('call', 'add', ('int', 'int', 'int'), ('int', 'int', 'int'), ((3, ('widen',), ('widen',)), (0, (), ()))),
            ('call', 'add', ('int', 'int', 'int'), ('bit', 'bit', 'bit'), ((1, ('widen',), ()), (1, ('widen',), ()))),
            ('call', 'add', ('int', 'int', 'int'), ('int', 'int', 'int'), ((4, (), ()), (5, (), ('widen',)))),
        )
        value = (rows, (), ())
        self.assertTrue(shows_clash(WIDE, WIDE, value))
        found = self.assert_unfolds(WIDE, WIDE, value)
        low = ('call', 'add', (('input', 0), ('input', 1)))
        left = ('call', 'add', (low, ('input', 2)))
        self.assertEqual(found, ('call', 'add', (left, ('call', 'add', (('input', 3), ('input', 4))))))
        self.assertEqual(unfolded(WIDE, WIDE, value)[0], ('bit', 'bit', 'int', 'bit', 'bit'))
        self.assertEqual(unfolded(WIDE, WIDE, value)[4], (0, 1, 2, 1, 1))

    def test_a_row_that_is_used_twice_is_written_twice(self):
        for times in range(6):
            value = doubled_clash(times)
            self.assertTrue(shows_clash(SAME, SAME, value))
            found = self.assert_unfolds(SAME, SAME, value)
            self.assertEqual(size(found), 2 ** (times + 2) - 1)
            self.assertEqual(inputs_used(found), tuple(range(2 ** (times + 1))))

    def test_sizes_at_the_limit(self):
        for many in (2, 3, 4, 26, 199, 200):
            value = neg_clash(many)
            self.assertTrue(shows_clash(TWO, TWO, value))
            found = self.assert_unfolds(TWO, TWO, value)
            self.assertEqual((size(found), height(found)), (many, many))
            self.assertEqual(operators_used(found), ('neg',))
        for many in (201, 202, 1000):
            value = neg_clash(many)
            self.assertTrue(shows_clash(TWO, TWO, value))
            with self.assertRaises(TooLarge) as caught:
                self.call(unfolded, TWO, TWO, value)
            self.assertEqual(caught.exception.size, many)

    def test_only_the_last_row_counts(self):
        rows = neg_rows(300)
        value = (rows + (rows[1],), ('widen',), ())
        self.assertTrue(shows_clash(TWO, TWO, value))
        self.assertEqual(size(self.assert_unfolds(TWO, TWO, value)), 2)

    def test_sizes_beyond_all_limits(self):
        for times in (6, 7, 60, 140, 1000):
            value = doubled_clash(times)
            self.assertTrue(shows_clash(SAME, SAME, value))
            self.assertEqual(row_sizes(value[0])[-1], 2 ** (times + 2) - 1)
            with self.assertRaises(TooLarge) as caught:
                unfolded(SAME, SAME, value)
            self.assertEqual(caught.exception.size, 2 ** (times + 2) - 1)
        self.assertEqual(row_sizes(doubled_rows(140)), tuple([2 ** (at + 1) - 1 for at in range(141)]))
        self.assertGreater(row_sizes(doubled_rows(140))[-1], 10 ** 40)

    def test_many_inputs(self):
        rows = [('input', 'bit', 1), ('call', 'same', ('bit',) * 3, ('int',) * 3, ((0, (), ('widen',)),) * 2)]
        for at in range(98):
            rows.append(('call', 'same', ('bit',) * 3, ('int',) * 3, ((0, (), ('widen',)), (at + 1, (), ()))))
        value = (tuple(rows), ('widen',), ())
        self.assertTrue(shows_clash(SAME, SAME, value))
        found = self.assert_unfolds(SAME, SAME, value)
        self.assertEqual((size(found), height(found), len(inputs_used(found))), (199, 100, 100))

    def test_row_sizes(self):
        call = ('call', 'f', ('a', 'a', 'a', 'a'), ('a', 'a', 'a', 'a'), ((0, (), ()), (1, (), ()), (1, (), ())))
        rows = (('input', 'a', 0), ('call', 'one', ('a',), ('a',), ()), call, ('cast', 'a', None, None, (2, (), ())))
        self.assertEqual(self.call(row_sizes, rows), (1, 1, 4, 5))


class DifferentKindsTest(Checked):

    def test_all_functions(self):
        for kinds in OTHER_KINDS:
            strange = (kinds, (), 1)
            for both in ((WIDE, strange), (strange, WIDE)):
                self.assertRaises(DifferentKinds, clash, *both)
                self.assertRaises(DifferentKinds, clash_size, *both)
                for function in (derived_pair, shows_clash, unfolded):
                    for value in (None, 0, (), CLASH, ROWS, [], {}, 'bit', neg_clash(201)):
                        self.assertRaises(DifferentKinds, function, *both, value)
