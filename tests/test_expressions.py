import random
import unittest

from samereading.expressions import height, inputs_used, is_expression, operators_used, size, substituted
from tests.samples import (
    KINDS, LITERAL, ONES, SUM, TRIANGLE, WIDE, WIDEN, WRONG_WHOLE, Checked, bushy, call_chain, cast_chain, spoiled,
)

TREE = ('call', 'f', (('input', 1), ('cast', 'b', ('input', 0))))
EIGHT = ('bit', 'int', 'bit', 'int', 'bit', 'int', 'bit', 'bit')
MIXED = ('call', 'add', (
    ('cast', 'int', ('input', 1)), ('call', 'nosuch', ()), ('call', 'big', (('call', 'add', (('input', 0),)),)),
))


def some_expressions(many, inputs):
    """Expressions over inputs, calls with 0 to 3 arguments and casts, of mixed shapes."""
    source = random.Random(11)

    def made(depth):
        choice = source.randint(0, 5) if depth else 0
        if choice == 0:
            return ('input', source.randint(0, inputs - 1))
        if choice == 1:
            return ('cast', source.choice(('bit', 'int')), made(depth - 1))
        operator = source.choice(('f', 'g', 'add', 'input', 'call', 'cast'))
        return ('call', operator, tuple([made(depth - 1) for _ in range(source.randint(0, 3))]))

    return [made(number % 6) for number in range(many)]


def nodes_of(expression):
    """The nodes of an expression, each with its depth."""
    found = [(expression, 1)]
    for node, depth in found:
        children = {'input': (), 'call': node[2:] and node[2], 'cast': node[2:]}[node[0]]
        found.extend([(child, depth + 1) for child in children])
    return found


class IsExpressionTest(Checked):

    def test_examples(self):
        self.assert_true(is_expression, TRIANGLE, ('a',), ('call', 'nosuch', ()))
        self.assert_false(is_expression, TRIANGLE, ('a',), ('input', 1))
        self.assert_false(is_expression, TRIANGLE, ('a',), ('cast', 'd', ('input', 0)))
        self.assert_true(is_expression, WIDE, ('bit', 'bit'), SUM)

    def test_inputs(self):
        for many in range(9):
            for number in range(10):
                self.assertIs(self.call(is_expression, WIDE, EIGHT[:many], ('input', number)), number < many)
        for number in (-1, -8, True, False, None, '0', (), (0,), [0], {}, 10 ** 30):
            self.assert_false(is_expression, WIDE, EIGHT, ('input', number))

    def test_more_than_eight_input_kinds_may_be_passed_on(self):
        self.assert_true(is_expression, WIDE, EIGHT + ('int',), ('input', 8))
        self.assert_false(is_expression, WIDE, EIGHT + ('int',), ('input', 9))

    def test_without_input_kinds(self):
        self.assert_true(is_expression, WIDE, (), ('call', 'f', (('call', 'g', ()),)))
        self.assert_false(is_expression, WIDE, (), ('input', 0))
        self.assert_false(is_expression, WIDE, (), ('call', 'f', (('input', 0),)))

    def test_any_name_as_operator(self):
        for name in ('a', 'z', 'add', 'nosuch', 'abcdefgh', 'input', 'call', 'cast', 'widen', 'bit'):
            self.assert_true(is_expression, WIDE, (), ('call', name, ()))
        for name in ('', 'abcdefghi', 'Add', 'add2', 'a b', 'add\n', '\u00e4', None, 0, True, ('add',), ['add'], {}):
            self.assert_false(is_expression, WIDE, (), ('call', name, ()))

    def test_number_of_arguments(self):
        leaf = ('input', 0)
        for many in range(4):
            self.assert_true(is_expression, WIDE, ('bit',), ('call', 'f', (leaf,) * many))
        for many in (4, 5, 100):
            self.assert_false(is_expression, WIDE, ('bit',), ('call', 'f', (leaf,) * many))
        for rest in ([leaf], [], None, leaf, {}, {0: leaf}, '', 'ab'):
            self.assert_false(is_expression, WIDE, ('bit',), ('call', 'f', rest))

    def test_casts(self):
        for kind in ('bit', 'int'):
            self.assert_true(is_expression, WIDE, ('bit',), ('cast', kind, ('input', 0)))
        for kind in ('word', 'widen', '', 'Bit', None, 0, True, ('bit',), ['bit'], {'bit': 2}, ('bit', 2)):
            self.assert_false(is_expression, WIDE, ('bit',), ('cast', kind, ('input', 0)))
        self.assert_false(is_expression, WIDE, ('bit',), ('cast', 'bit', (('input', 0),)))
        self.assert_false(is_expression, WIDE, ('bit',), ('cast', 'bit', ()))

    def test_number_of_parts(self):
        for value in (('input',), ('input', 0, 0), ('call', 'f'), ('call',), ('call', 'f', (), ()), ('cast', 'bit'),
                      ('cast', 'bit', ('input', 0), ('input', 0)), ('cast',), ()):
            self.assert_false(is_expression, WIDE, ('bit',), value)
            self.assert_false(is_expression, WIDE, ('bit',), ('call', 'f', (value,)))
            self.assert_false(is_expression, WIDE, ('bit',), ('cast', 'bit', value))

    def test_tags(self):
        for tag in ('Input', 'in', 'inputs', '', None, 0, ('input',), [], {}):
            self.assert_false(is_expression, WIDE, ('bit',), (tag, 0))
        for tag in ('Call', 'calls', 'definition', '', None, 0, ('call',), [], {}):
            self.assert_false(is_expression, WIDE, ('bit',), (tag, 'f', ()))
            self.assert_false(is_expression, WIDE, ('bit',), (tag, 'bit', ('input', 0)))
        self.assert_false(is_expression, WIDE, ('bit',), ('cast', 'bit', (('input', 0),)))
        self.assert_false(is_expression, WIDE, ('bit',), ('call', 'bit', ('input', 0)))
        self.assert_false(is_expression, WIDE, ('bit',), ('input', 'bit', ('input', 0)))

    def test_at_most_200_nodes(self):
        for many in (1, 2, 3, 100, 199, 200):
            self.assertEqual(len(nodes_of(bushy(many))), many)
            self.assert_true(is_expression, WIDE, ('bit',), bushy(many))
        for many in (201, 202, 300, 2000):
            self.assert_false(is_expression, WIDE, ('bit',), bushy(many))

    def test_at_most_25_deep(self):
        for depth in (1, 2, 24, 25):
            self.assert_true(is_expression, WIDE, ('bit',), cast_chain(depth))
            self.assert_true(is_expression, WIDE, ('bit',), call_chain(depth))
        for depth in (26, 27, 100, 200, 50000):
            self.assertIs(is_expression(WIDE, ('bit',), cast_chain(depth)), False)
            self.assertIs(is_expression(WIDE, ('bit',), call_chain(depth)), False)

    def test_depth_on_one_side_only(self):
        for at in range(3):
            for depth, expected in ((24, True), (25, False)):
                rest = (('input', 0),) * at + (cast_chain(depth),) + (('input', 0),) * (2 - at)
                self.assertIs(is_expression(WIDE, ('bit',), ('call', 'f', rest)), expected)

    def test_both_limits_at_once(self):
        deep = cast_chain(24)
        rest = 200 - 1 - 24
        self.assert_true(is_expression, WIDE, ('bit',), ('call', 'f', (deep, bushy(rest))))
        self.assert_false(is_expression, WIDE, ('bit',), ('call', 'f', (deep, bushy(rest + 1))))
        self.assert_false(is_expression, WIDE, ('bit',), ('call', 'f', (cast_chain(25), bushy(rest - 1))))

    def test_far_more_nodes_than_can_be_counted(self):
        value = ('input', 0)
        for _ in range(20000):
            value = ('call', 'f', (value, value, value))
        self.assertIs(is_expression(WIDE, ('bit',), value), False)
        for _ in range(3):
            value = ('call', 'f', (('input', 0), value))
        self.assertIs(is_expression(WIDE, ('bit',), value), False)

    def test_wrong_values(self):
        for value in WRONG_WHOLE + tuple(spoiled(SUM)) + tuple(spoiled(MIXED)):
            self.assert_false(is_expression, WIDE, ('bit', 'int'), value)

    def test_wrong_value_deep_inside(self):
        for leaf in (None, 0, True, 'bit', (), [], {}, ['input', 0], ('input', False), ('input', 1), ('cast', 'd', ())):
            value = leaf
            for _ in range(24):
                value = ('cast', 'bit', value)
            self.assert_false(is_expression, WIDE, ('bit',), value)

    def test_other_values_of_the_package(self):
        for value in (WIDE, LITERAL, KINDS, WIDEN, ONES, ('input', ()), ('input', ('widen',))):
            self.assert_false(is_expression, WIDE, ('bit', 'bit'), value)

    def test_many_expressions(self):
        for value in some_expressions(200, 2):
            self.assertIs(self.call(is_expression, WIDE, ('bit', 'int'), value), len(nodes_of(value)) <= 200)


class MeasuresTest(Checked):

    def assert_measures(self, expression, nodes, depth, operators, inputs):
        self.assertEqual(self.call(size, expression), nodes)
        self.assertEqual(self.call(height, expression), depth)
        self.assertEqual(self.call(operators_used, expression), operators)
        self.assertEqual(self.call(inputs_used, expression), inputs)

    def test_examples(self):
        self.assert_measures(TREE, 4, 3, ('f',), (0, 1))
        self.assert_measures(SUM, 3, 2, ('add',), (0, 1))

    def test_single_nodes(self):
        self.assert_measures(('input', 7), 1, 1, (), (7,))
        self.assert_measures(('call', 'f', ()), 1, 1, ('f',), ())
        self.assert_measures(('cast', 'bit', ('input', 0)), 2, 2, (), (0,))

    def test_mixed(self):
        self.assert_measures(MIXED, 7, 4, ('add', 'big', 'nosuch'), (0, 1))

    def test_depth_on_each_side(self):
        for at in range(3):
            rest = (('input', 0),) * at + (cast_chain(5),) + (('input', 0),) * (2 - at)
            self.assert_measures(('call', 'f', rest), 8, 6, ('f',), (0,))

    def test_ascending_without_duplicates(self):
        inputs = tuple([('input', number) for number in (5, 1, 5)])
        value = ('call', 'z', (('call', 'b', inputs), ('call', 'ab', (('input', 3),)), ('call', 'b', ())))
        self.assert_measures(value, 8, 3, ('ab', 'b', 'z'), (1, 3, 5))
        far = tuple([('input', number) for number in (16, 3, 8)])
        self.assert_measures(('call', 'f', far), 4, 2, ('f',), (3, 8, 16))

    def test_names_of_operators_like_tags(self):
        value = ('call', 'input', (('call', 'cast', (('input', 2),)), ('cast', 'call', ('call', 'call', ()))))
        self.assert_measures(value, 5, 3, ('call', 'cast', 'input'), (2,))

    def test_large_and_deep(self):
        self.assert_measures(bushy(200), 200, height(bushy(200)), ('f',), (0,))
        self.assert_measures(cast_chain(25), 25, 25, (), (0,))
        self.assert_measures(call_chain(25), 25, 25, ('neg', 'one'), ())
        self.assert_measures(cast_chain(200), 200, 200, (), (0,))
        self.assert_measures(call_chain(200), 200, 200, ('neg', 'one'), ())

    def test_many_expressions(self):
        for expression in some_expressions(200, 4):
            nodes = nodes_of(expression)
            operators = tuple(sorted({node[1] for node, _ in nodes if node[0] == 'call'}))
            inputs = tuple(sorted({node[1] for node, _ in nodes if node[0] == 'input'}))
            self.assert_measures(expression, len(nodes), max([depth for _, depth in nodes]), operators, inputs)

    def test_no_booleans(self):
        for number in (0, 1):
            self.assertIs(type(inputs_used(('input', number))[0]), int)


def expected_substituted(expression, arguments):
    if expression[0] == 'input':
        return arguments[expression[1]]
    if expression[0] == 'cast':
        return ('cast', expression[1], expected_substituted(expression[2], arguments))
    return ('call', expression[1], tuple([expected_substituted(child, arguments) for child in expression[2]]))


class SubstitutedTest(Checked):

    def test_example(self):
        found = self.call(substituted, SUM, (('input', 0), ('call', 'one', ())))
        self.assertEqual(found, ('call', 'add', (('input', 0), ('call', 'one', ()))))

    def test_root(self):
        self.assertEqual(self.call(substituted, ('input', 0), (SUM,)), SUM)
        self.assertEqual(self.call(substituted, ('input', 1), (SUM, TREE)), TREE)

    def test_without_inputs(self):
        for value in (('call', 'one', ()), ('cast', 'bit', ('call', 'f', (('call', 'g', ()),)))):
            self.assertEqual(self.call(substituted, value, ()), value)
            self.assertEqual(self.call(substituted, value, (SUM, TREE)), value)

    def test_everywhere(self):
        first = ('input', 0)
        value = ('call', 'f', (first, ('cast', 'bit', first), ('call', 'g', (first, ('input', 1)))))
        one = ('call', 'one', ())
        expected = ('call', 'f', (one, ('cast', 'bit', one), ('call', 'g', (one, SUM))))
        self.assertEqual(self.call(substituted, value, (one, SUM)), expected)

    def test_inputs_of_the_arguments_stay(self):
        swapped = (('input', 1), ('input', 0))
        self.assertEqual(self.call(substituted, SUM, swapped), ('call', 'add', swapped))
        self.assertEqual(substituted(SUM, (('input', 1), SUM)), ('call', 'add', (('input', 1), SUM)))

    def test_nothing_else_is_replaced(self):
        value = ('call', 'input', (('cast', 'call', ('input', 0)), ('call', 'cast', (('call', 'input', ()),))))
        expected = ('call', 'input', (('cast', 'call', SUM), ('call', 'cast', (('call', 'input', ()),))))
        self.assertEqual(self.call(substituted, value, (SUM,)), expected)

    def test_itself(self):
        same = tuple([('input', number) for number in range(8)])
        for value in some_expressions(50, 8):
            self.assertEqual(self.call(substituted, value, same), value)

    def test_more_arguments_than_needed(self):
        many = tuple([('call', 'f' + letter, ()) for letter in 'abcdefgh'])
        self.assertEqual(self.call(substituted, SUM, many), ('call', 'add', many[:2]))
        self.assertEqual(self.call(substituted, ('input', 7), many), many[7])

    def test_many_expressions(self):
        sources = some_expressions(120, 3)
        for at, value in enumerate(sources):
            arguments = tuple([sources[(at * 7 + step) % 120] for step in (1, 2, 3)])
            self.assertEqual(self.call(substituted, value, arguments), expected_substituted(value, arguments))

    def test_large_and_deep(self):
        self.assertEqual(substituted(cast_chain(25), (cast_chain(25),)), cast_chain(49))
        self.assertEqual(substituted(cast_chain(200), (('input', 0),)), cast_chain(200))
        found = substituted(bushy(200), (bushy(200),))
        leaves = len([node for node, _ in nodes_of(bushy(200)) if node[0] == 'input'])
        self.assertEqual(size(found), 200 + leaves * 199)

    def test_result_passed_in_again(self):
        value = ('call', 'f', (('input', 0), ('input', 0)))
        for _ in range(60):
            value = substituted(('call', 'f', (('input', 0), ('input', 0))), (value,))
        self.assertIs(is_expression(WIDE, ('bit',), value), False)
        self.assertIs(is_expression(WIDE, ('bit',), substituted(SUM, (SUM, SUM))), False)
        self.assertIs(is_expression(WIDE, ('bit', 'int'), substituted(SUM, (SUM, SUM))), True)

    def test_returns_tuples(self):
        found = substituted(TREE, (SUM, SUM))
        for node, _ in nodes_of(found):
            self.assertIsInstance(node, tuple)
            self.assertTrue(node[0] != 'call' or isinstance(node[2], tuple))


if __name__ == '__main__':
    unittest.main()
