import random

from samereading.chains import chains
from samereading.errors import NoNumber
from samereading.expressions import is_expression
from samereading.readings import (
    kinds_of, reading_at, reading_count, reading_kind, reading_number, results, value_of,
)
from tests import plain
from tests.samples import (
    LITERAL, SUM, TRIANGLE, WIDE, WRONG_WHOLE, Checked, bushy, call_chain, cast_chain, spoiled,
)
from tests.small import some_libraries

UP = ('conversion', 'up', 'a', 'b', False, (1, 2))
CASTS = ((('a', 2), ('b', 3)), (UP,), 1)
CAST = ('cast', 'b', ('input', 0))

# Conversions of both sorts between all kinds, several definitions of one operator with the same parameters, with
# the same result, with other numbers of parameters.
RICH = (
    (('a', 2), ('b', 2), ('c', 3)),
    (
        ('definition', 'f', ('b',), 'c', (2, 1)),
        ('conversion', 'bc', 'b', 'c', True, (0, 2)),
        ('conversion', 'xab', 'a', 'b', False, (1, 0)),
        ('definition', 'f', ('a',), 'c', (0, 1)),
        ('definition', 'f', ('a',), 'a', (1, 1)),
        ('conversion', 'ab', 'a', 'b', True, (0, 1)),
        ('definition', 'f', ('b', 'a'), 'b', (0, 1, 1, 0)),
        ('definition', 'f', (), 'a', (1,)),
        ('conversion', 'ac', 'a', 'c', True, (1, 1)),
        ('conversion', 'xcb', 'c', 'b', False, (1, 0, 1)),
        ('definition', 'f', ('b', 'b'), 'b', (0, 0, 0, 1)),
        ('conversion', 'ab2', 'a', 'b', True, (1, 0)),
        ('conversion', 'yab', 'a', 'b', False, (1, 1)),
        ('definition', 'f', (), 'c', (2,)),
        ('conversion', 'ca', 'c', 'a', True, (0, 1, 0)),
    ),
    2,
)
LEAF = ('input', 0)
NONE = ('call', 'f', ())
RICH_EXPRESSIONS = (
    LEAF, ('input', 1), ('input', 2), NONE, ('call', 'g', ()), ('call', 'g', (LEAF,)), ('call', 'f', (LEAF,)),
    ('call', 'f', (('input', 2),)), ('call', 'f', (LEAF, ('input', 1))), ('call', 'f', (NONE, NONE)),
    ('call', 'f', (LEAF, LEAF, LEAF)), ('cast', 'b', LEAF), ('cast', 'b', ('input', 2)), ('cast', 'a', ('input', 1)),
    ('cast', 'c', ('cast', 'b', ('input', 2))), ('cast', 'b', ('call', 'f', (LEAF,))),
    ('call', 'f', (('cast', 'b', NONE),)), ('call', 'f', (('call', 'g', ()), LEAF)), ('cast', 'a', ('call', 'g', ())),
)
RICH_KINDS = ('a', 'b', 'c')


def some_expression(source, library, many, depth):
    """An expression over so many inputs, of the operators of the library and another one."""
    choice = source.randint(0, 6) if depth else 0
    if choice < 2 and many:
        return ('input', source.randrange(many))
    if choice < 4:
        inner = some_expression(source, library, many, depth - 1) if depth else ('call', 'f', ())
        return ('cast', source.choice(library[0])[0], inner)
    parts = source.choice((0, 1, 1, 2, 2, 3)) if depth else 0
    operator = source.choice('ffffggz')
    return ('call', operator, tuple([some_expression(source, library, many, depth - 1) for _ in range(parts)]))


def some_tasks(many, seed):
    """Libraries, each with input kinds and an expression that has few enough readings to list all."""
    source = random.Random(seed)
    found = []
    for library in some_libraries(many, seed, 10):
        input_kinds = tuple([source.choice(library[0])[0] for _ in range(source.randint(0, 3))])
        expression = some_expression(source, library, len(input_kinds), source.randint(0, 3))
        counts = [reading_count(library, input_kinds, expression, kind) for kind, _ in library[0]]
        if sum(counts) <= 300:
            found.append((library, input_kinds, expression))
    return found


def rich_tasks():
    tasks = [(RICH, RICH_KINDS, expression) for expression in RICH_EXPRESSIONS]
    return tasks + [(RICH[:2] + (limit,), RICH_KINDS, RICH_EXPRESSIONS[8]) for limit in (0, 1, 3, 4)]


def all_inputs(library, input_kinds):
    counts = dict(library[0])
    found = [()]
    for kind in input_kinds:
        found = [values + (value,) for values in found for value in range(counts[kind])]
    return found


class ReadingsTest(Checked):

    def assert_no_number(self, number, *task):
        before = repr(number)
        with self.assertRaises(NoNumber) as caught:
            reading_at(*task, number)
        self.assertIs(caught.exception.value, number)
        self.assertEqual(repr(number), before)

    def assert_reads_like_the_definition(self, library, input_kinds, expression):
        self.assertTrue(is_expression(library, input_kinds, expression))
        task = (library, input_kinds, expression)
        expected = plain.readings_by_kind(*task)
        kinds = tuple([kind for kind in sorted(expected) if expected[kind]])
        self.assertEqual(self.call(kinds_of, *task), kinds, task)
        for kind, readings in expected.items():
            self.assertEqual(self.call(reading_count, *task, kind), len(readings), task)
            for number, reading in enumerate(readings):
                self.assertEqual(self.call(reading_at, *task, kind, number), reading, task)
                self.assertEqual(self.call(reading_number, *task, reading), number, task)
                self.assertEqual(self.call(reading_kind, *task, reading), kind, task)
            for number in (-1, len(readings), len(readings) + 1):
                self.assert_no_number(number, *task, kind)

    def assert_values_like_the_definition(self, library, input_kinds, expression):
        task = (library, input_kinds, expression)
        expected = plain.readings_by_kind(*task)
        for inputs in all_inputs(library, input_kinds)[:8]:
            for kind, readings in expected.items():
                values = [plain.value_of(*task, reading, inputs) for reading in readings]
                for reading, value in zip(readings, values):
                    self.assertEqual(self.call(value_of, *task, reading, inputs), value, task)
                found = self.call(results, *task, kind, inputs)
                self.assertEqual(found, tuple(sorted(set(values))), task)

    def test_examples(self):
        task = (WIDE, ('bit', 'bit'), SUM)
        self.assertEqual(self.call(reading_count, *task, 'int'), 2)
        self.assertEqual(self.call(results, *task, 'int', (1, 1)), (0, 2))
        second = ('call', ('bit', 'bit', 'bit'), (('input', ()), ('input', ())), ('widen',))
        self.assertEqual(self.call(reading_at, *task, 'int', 1), second)
        leaf = (TRIANGLE, ('a',), ('input', 0))
        self.assertEqual(self.call(kinds_of, *leaf), ('a', 'b', 'c'))
        self.assertEqual(self.call(reading_count, *leaf, 'c'), 2)
        self.assertEqual(self.call(reading_at, *leaf, 'c', 1), ('input', ('ab', 'bc')))
        self.assert_no_number(2, *leaf, 'c')
        self.assertEqual(self.call(reading_kind, *leaf, ('input', ('ab',))), 'b')
        self.assertIsNone(self.call(reading_kind, *leaf, ('input', ('bc',))))
        self.assertEqual(self.call(reading_number, *leaf, ('input', ('ab', 'bc'))), 1)
        self.assertEqual(self.call(reading_count, CASTS, ('a',), CAST, 'b'), 1)
        self.assertEqual(self.call(results, CASTS, ('a',), CAST, 'b', (1,)), (2,))
        self.assertEqual(self.call(value_of, CASTS, ('a',), CAST, ('cast', 'up', ('input', ()), ()), (0,)), 1)

    def test_rich_library(self):
        for task in rich_tasks():
            self.assert_reads_like_the_definition(*task)
            self.assert_values_like_the_definition(*task)

    def test_many_libraries(self):
        tasks = some_tasks(400, 21)
        self.assertGreater(len(tasks), 250)
        for task in tasks:
            self.assert_reads_like_the_definition(*task)
            self.assert_values_like_the_definition(*task)

    def test_order_written_out(self):
        first, second = ('input', ()), ('input', ('ab',))
        other = ('input', ('ab2',))
        expected = (
            ('call', ('b', 'a', 'b'), (second, first), ()), ('call', ('b', 'a', 'b'), (other, first), ()),
            ('call', ('b', 'b', 'b'), (second, second), ()), ('call', ('b', 'b', 'b'), (second, other), ()),
            ('call', ('b', 'b', 'b'), (other, second), ()), ('call', ('b', 'b', 'b'), (other, other), ()),
        )
        task = (RICH[:2] + (1,), ('a',), ('call', 'f', (LEAF, LEAF)), 'b')
        self.assertEqual(tuple([reading_at(*task, number) for number in range(6)]), expected)
        self.assertEqual(reading_count(*task), 6)

    def test_chain_is_behind_the_arguments_in_the_order(self):
        task = (RICH[:2] + (1,), ('a', 'b'), ('call', 'f', (('input', 1),)), 'c')
        self.assertEqual(reading_at(*task, 0), ('call', ('b', 'c'), (('input', ()),), ()))
        cast = (RICH[:2] + (1,), ('a',), ('cast', 'a', LEAF), 'b')
        expected = [('cast', None, ('input', ()), (name,)) for name in ('ab', 'ab2')]
        self.assertEqual([reading_at(*cast, number) for number in range(reading_count(*cast))], expected)

    def test_none_comes_ahead_of_the_conversions_by_their_places(self):
        task = (RICH[:2] + (0,), ('a',), ('cast', 'b', ('cast', 'b', LEAF)), 'b')
        names = [(reading_at(*task, number)[1], reading_at(*task, number)[2][1]) for number in range(2)]
        self.assertEqual(names, [(None, 'xab'), (None, 'yab')])
        both = (RICH[:2] + (1,), ('a',), ('cast', 'b', LEAF), 'b')
        names = [reading_at(*both, number)[1] for number in range(5)]
        self.assertEqual(names, [None, None, 'xab', 'xcb', 'yab'])

    def test_an_implicit_conversion_is_none_for_a_cast(self):
        library = ((('a', 2), ('b', 3)), (UP[:4] + (True, (1, 2)),), 1)
        task = (library, ('a',), CAST)
        self.assertEqual(reading_count(*task, 'b'), 1)
        self.assertEqual(reading_at(*task, 'b', 0), ('cast', None, ('input', ('up',)), ()))
        self.assertIsNone(reading_kind(*task, ('cast', 'up', ('input', ()), ())))
        self.assertEqual(reading_count(library[:2] + (0,), ('a',), CAST, 'b'), 0)

    def test_expressions_without_a_reading(self):
        for expression in (('call', 'nosuch', ()), ('call', 'add', (('input', 0),)), ('cast', 'bit', ('input', 1)),
                           ('call', 'add', (SUM, ('call', 'nosuch', ()))), ('cast', 'int', ('call', 'no', ()))):
            task = (WIDE, ('bit', 'int'), expression)
            self.assertEqual(self.call(kinds_of, *task), ())
            for kind in ('bit', 'int'):
                self.assertEqual(self.call(reading_count, *task, kind), 0)
                self.assertEqual(self.call(results, *task, kind, (0, 0)), ())
                self.assert_no_number(0, *task, kind)
            self.assertIsNone(self.call(reading_kind, *task, ('input', ())))

    def test_library_without_items(self):
        empty = (WIDE[0], (), 4)
        self.assert_reads_like_the_definition(empty, ('bit', 'int'), ('input', 1))
        self.assert_reads_like_the_definition(empty, ('bit', 'int'), ('cast', 'int', ('input', 1)))
        self.assert_reads_like_the_definition(empty, ('bit', 'int'), ('cast', 'int', ('input', 0)))
        self.assert_reads_like_the_definition(empty, ('bit', 'int'), SUM)

    def test_literal_of_several_kinds(self):
        task = (LITERAL, (), ('call', 'one', ()))
        self.assertEqual(kinds_of(*task), ('bit', 'int'))
        self.assertEqual(reading_at(*task, 'int', 0), ('call', ('int',), (), ()))
        self.assertEqual(reading_at(*task, 'bit', 0), ('call', ('bit',), (), ()))
        self.assertIsNone(reading_kind(*task, ('call', ('int',), (), ('widen',))))

    def test_not_a_number(self):
        task = (TRIANGLE, ('a',), ('input', 0), 'c')
        wrong = (-1, 2, 3, 10 ** 30, -10 ** 30, True, False, None, '0', '', [0], (0,), {0: 0}) + WRONG_WHOLE
        for number in wrong:
            if isinstance(number, bool) or number not in (0, 1):
                self.assert_no_number(number, *task)

    def test_wrong_readings(self):
        tasks = rich_tasks() + some_tasks(60, 22)
        many = 0
        for task in tasks:
            expected = plain.readings_by_kind(*task)
            known = {repr(reading): kind for kind in expected for reading in expected[kind]}
            sample = [reading for kind in sorted(expected) for reading in expected[kind][:2]][:4]
            values = list(WRONG_WHOLE)
            for reading in sample:
                values.extend(spoiled(reading))
                values.extend([reading + ((),), reading[:-1], reading[::-1], (reading,), [reading], {'input': reading}])
                values.extend([('input',) + reading, reading[1:]])
            for value in values:
                found = self.call(reading_kind, *task, value)
                self.assertEqual(found, known.get(repr(value)), (task, value))
                many += 1
        self.assertGreater(many, 10000)

    def test_readings_of_other_expressions(self):
        tasks = rich_tasks()[:19]
        every = [plain.readings_by_kind(*task) for task in tasks]
        for task, expected in zip(tasks, every):
            known = {reading: kind for kind in expected for reading in expected[kind]}
            for other in every:
                for reading in [reading for kind in sorted(other) for reading in other[kind][:5]]:
                    self.assertEqual(reading_kind(*task, reading), known.get(reading))

    def test_wrong_names_in_readings(self):
        task = (RICH, ('a',), ('cast', 'b', LEAF))
        self.assertEqual(reading_kind(*task, ('cast', 'xab', ('input', ()), ())), 'b')
        for name in ('ab', 'xcb', 'f', 'b', '', 0, False, (), ('xab',), ['xab']):
            self.assertIsNone(reading_kind(*task, ('cast', name, ('input', ()), ())))
        self.assertIsNone(reading_kind(*task, ('cast', None, ('input', ()), ())))
        self.assertIsNone(reading_kind(*task, ('cast', 'xab', ('input', ('ab',)), ())))
        call = (RICH, ('a',), ('call', 'f', (LEAF,)))
        self.assertEqual(reading_kind(*call, ('call', ('a', 'c'), (('input', ()),), ())), 'c')
        for signature in (('a', 'b'), ('c', 'a'), ('a',), (), ('a', 'c', 'c'), ['a', 'c'], 'ac', None, ('b', 'c')):
            self.assertIsNone(reading_kind(*call, ('call', signature, (('input', ()),), ())))
        for arguments in ((), (('input', ()),) * 2, [('input', ())], ('input', ()), None, (None,), ((),)):
            self.assertIsNone(reading_kind(*call, ('call', ('a', 'c'), arguments, ())))

    def test_chains_that_are_too_long_or_begin_elsewhere(self):
        task = (RICH, ('a',), LEAF)
        self.assertEqual(reading_kind(*task, ('input', ('ab', 'bc'))), 'c')
        for chain in (('ab', 'bc', 'ca'), ('bc',), ('xab',), ('ac', 'ca'), ('ab', 'ab2'), ['ab'], 'ab', ('ab', None)):
            self.assertIsNone(reading_kind(*task, ('input', chain)))
        self.assertIsNone(reading_kind(RICH[:2] + (1,), ('a',), LEAF, ('input', ('ab', 'bc'))))


def doubling(depth):
    """A nested expression whose number of readings grows with its size."""
    value = ('input', 0)
    for _ in range(depth):
        value = ('call', 'f', (value,))
    return value


class ManyReadingsTest(Checked):

    def test_more_readings_than_can_be_listed(self):
        # Each call has two signatures for its argument, and its argument has two chains for one of these.
        library = (
            (('a', 2), ('b', 2)),
            (
                ('definition', 'f', ('a',), 'a', (1, 0)), ('definition', 'f', ('b',), 'a', (0, 1)),
                ('conversion', 'p', 'a', 'b', True, (0, 1)), ('conversion', 'q', 'a', 'b', True, (1, 1)),
            ),
            1,
        )
        for depth in (1, 2, 5, 24, 199):
            task = (library, ('a',), doubling(depth))
            self.assertEqual(reading_count(*task, 'a'), 3 ** depth)
            self.assertEqual(reading_count(*task, 'b'), 2 * 3 ** depth)
            for kind, count in (('a', 3 ** depth), ('b', 2 * 3 ** depth)):
                for number in sorted({0, 1, 2, count // 3, count // 2, count - 2, count - 1}):
                    if number < count:
                        reading = reading_at(*task, kind, number)
                        self.assertEqual(reading_number(*task, reading), number)
                        self.assertEqual(reading_kind(*task, reading), kind)
                        self.assertIn(value_of(*task, reading, (0,)), results(*task, kind, (0,)))
                for number in (-1, count, count + 1, True, False):
                    with self.assertRaises(NoNumber):
                        reading_at(*task, kind, number)
            self.assertEqual(results(*task, 'a', (0,)), (0, 1))

    def test_two_hundred_nodes(self):
        kinds = tuple([(letter, 8) for letter in 'abcdef'])
        tables = tuple([(x + y) % 8 for x in range(8) for y in range(8)])
        items = tuple([('definition', 'f', (s, t), r, tables) for s in 'abcde' for t in 'ab' for r in 'ab'])
        steps = tuple([('conversion', 'x' + s + t, s, t, True, tuple(range(8))) for s, t in zip('abcdef', 'bcdefa')])
        library = (kinds, items + steps, 4)
        expression = binary(199)
        task = (library, ('a',) * 8, expression)
        for kind in 'abcdef':
            count = reading_count(*task, kind)
            self.assertGreater(count, 10 ** 20)
            for number in (0, 1, count // 7, count - 1):
                self.assertEqual(reading_number(*task, reading_at(*task, kind, number)), number)
            self.assertRaises(NoNumber, reading_at, *task, kind, count)
            self.assertEqual(results(*task, kind, (1,) * 8), (100 % 8,))
        self.assertEqual(kinds_of(*task), tuple('abcdef'))

    def test_thousands_of_chains(self):
        kinds = tuple([(letter, 8) for letter in 'abcdef'])
        steps = []
        for s, t, many in (('a', 'b', 8), ('b', 'c', 8), ('c', 'd', 7), ('d', 'e', 7)):
            steps.extend([('conversion', s + t + 'pqrstuvw'[n], s, t, True, (n,) * 8) for n in range(many)])
        library = (kinds, tuple(steps), 4)
        self.assertEqual(len(chains(library, 'a', 'e')), 8 * 8 * 7 * 7)
        expression = ('input', 0)
        for _ in range(24):
            expression = ('cast', 'e', expression)
        task = (library, ('a',), expression)
        self.assertEqual(reading_count(*task, 'e'), 8 * 8 * 7 * 7)
        for number in (0, 500, 3135):
            reading = reading_at(*task, 'e', number)
            self.assertEqual(reading_number(*task, reading), number)
            self.assertEqual(reading_kind(*task, reading), 'e')
            self.assertEqual(value_of(*task, reading, (0,)), number % 7)
        self.assertEqual(results(*task, 'e', (0,)), tuple(range(7)))

    def test_deep_and_large_expressions(self):
        library = ((('bit', 2),), (
            ('definition', 'one', (), 'bit', (1,)), ('definition', 'neg', ('bit',), 'bit', (1, 0)),
            ('definition', 'f', ('bit', 'bit', 'bit'), 'bit', (0, 1, 1, 0, 1, 0, 0, 1)),
            ('definition', 'f', ('bit', 'bit'), 'bit', (0, 1, 1, 0)), ('definition', 'f', ('bit',), 'bit', (0, 1)),
        ), 0)
        for expression, value in ((cast_chain(200), 1), (call_chain(200), 0), (call_chain(199), 1), (bushy(200), None)):
            task = (library, ('bit',), expression)
            self.assertEqual(reading_count(*task, 'bit'), 1)
            reading = reading_at(*task, 'bit', 0)
            self.assertEqual(reading_kind(*task, reading), 'bit')
            self.assertEqual(reading_number(*task, reading), 0)
            found = value_of(*task, reading, (1,))
            self.assertEqual(results(*task, 'bit', (1,)), (found,))
            self.assertIn(value, (found, None))

    def test_very_deep_values_are_no_readings(self):
        value = ('input', ())
        for _ in range(3000):
            value = ('cast', None, value, ())
        self.assertIsNone(reading_kind(CASTS, ('a',), CAST, value))
        self.assertIsNone(reading_kind(CASTS, ('a',), ('input', 0), value))
        wide = ('input', ())
        for _ in range(3000):
            wide = ('call', ('a', 'a'), (wide, wide), ())
        self.assertIsNone(reading_kind(CASTS, ('a',), CAST, wide))
        with self.assertRaises(NoNumber) as caught:
            reading_at(CASTS, ('a',), CAST, 'b', wide)
        self.assertIs(caught.exception.value, wide)


def binary(many):
    """A balanced expression of calls with two arguments above inputs, of so many nodes."""
    if many == 1:
        return ('input', 0)
    left = (many - 1) // 2
    left = left if left % 2 else left + 1
    return ('call', 'f', (binary(left), binary(many - 1 - left)))

