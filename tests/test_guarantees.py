"""The guarantees of section 4 over all modules: expressions, relations, clashes and local clashes together."""

import itertools
import random

from samereading.clashes import clash, clash_size, derived_pair, row_sizes, shows_clash, unfolded
from samereading.expressions import height, inputs_used, is_expression, operators_used, size, substituted
from samereading.library import part
from samereading.local import local_agree, local_clash
from samereading.readings import kinds_of, reading_at, reading_count, reading_kind, reading_number, results, value_of
from samereading.relation import agree, agreement, coherent, is_closed, pair_clashes, pairs, shows_agreement
from tests import plain
from tests.samples import LITERAL, WIDE, Checked
from tests.small import some_versions


def values_by_expression(one, other, most):
    """(size, kind, values in one, values in other) of all expressions of few nodes over inputs that differ."""
    kinds = [kind for kind, _ in one[0]]
    counts = dict(one[0])
    for many in range(1, most + 1):
        for expression in plain.expressions(one, many, 'fg', [('input', 0)]):
            numbers = itertools.count()
            uses = str(expression).count("('input'")
            expression = renumbered(expression, numbers)
            for input_kinds in itertools.product(kinds, repeat=uses):
                read = [kinds_of(library, input_kinds, expression) for library in (one, other)]
                for kind in sorted(set(read[0]) & set(read[1])):
                    for inputs in itertools.product(*[range(counts[start]) for start in input_kinds]):
                        task = (input_kinds, expression, kind, inputs)
                        yield many, results(one, *task), results(other, *task)


def renumbered(expression, numbers):
    if expression[0] == 'input':
        return ('input', next(numbers))
    if expression[0] == 'cast':
        return expression[:2] + (renumbered(expression[2], numbers),)
    return expression[:2] + (tuple([renumbered(child, numbers) for child in expression[2]]),)


class GuaranteesTest(Checked):

    def test_agreement_is_that_of_all_small_expressions(self):
        # (a), (b), (c) and (d): up to three nodes, over all inputs.
        found = {}
        for one, other in some_versions(160, 69, 7):
            least = clash_size(one, other)
            found[least] = found.get(least, 0) + 1
            smallest = None
            for many, first, second in values_by_expression(one, other, 3):
                self.assertTrue(first and second)
                if smallest is None and (first != second or len(first) > 1):
                    smallest = many
            self.assertEqual(smallest, least if least in (1, 2, 3) else None, (one, other))
        self.assertTrue(found[None] > 80 and min([found.get(least, 0) for least in (1, 2, 3)]) > 1, found)

    def test_either_an_agreement_or_a_clash_is_shown(self):
        for one, other in some_versions(300, 62, 8):
            shown = agreement(one, other)
            value = clash(one, other)
            self.assertEqual(shown is None, value is not None)
            self.assertIs(agree(one, other), value is None)
            if shown is not None:
                self.assertIs(shows_agreement(one, other, shown), True)
                self.assertIs(any([pair_clashes(one, other, pair) for pair in shown]), False)
                self.assertIs(local_agree(one, other), True)
            else:
                self.assertIs(shows_clash(one, other, value), True)
                self.assertIs(shows_agreement(one, other, pairs(one, other)), False)
                self.assertIs(is_closed(one, other, pairs(one, other)), True)

    def test_coherent_is_agreeing_with_itself(self):
        for one, _ in some_versions(200, 63, 8):
            self.assertIs(coherent(one), agree(one, one))
            self.assertEqual(coherent(one), clash(one, one) is None)

    def test_agreeing_both_ways_round(self):
        for one, other in some_versions(200, 64, 8):
            self.assertIs(agree(one, other), agree(other, one))
            self.assertEqual(clash_size(one, other), clash_size(other, one))
            self.assertIs(local_agree(one, other), local_agree(other, one))
            swapped = tuple(sorted([(second, first) for first, second in pairs(one, other)]))
            self.assertEqual(pairs(other, one), swapped)

    def test_a_part_of_a_coherent_library_is_coherent(self):
        source = random.Random(65)
        many = 0
        for one, _ in some_versions(200, 66, 8):
            if one[1] and coherent(one):
                places = tuple(sorted(source.sample(range(len(one[1])), source.randint(0, len(one[1])))))
                self.assertIs(coherent(part(one, places)), True)
                many += 1
        self.assertGreater(many, 50)

    def test_order_of_items_and_larger_limits(self):
        for one, other in some_versions(100, 67, 8):
            turned = (one[0], one[1][::-1], one[2])
            self.assertEqual(pairs(turned, other), pairs(one, other))
            self.assertEqual(clash_size(turned, other), clash_size(one, other))
            longer = (one[0], one[1], 4)
            self.assertLessEqual(set(pairs(one, other)), set(pairs(longer, other)))


class PassedInAgainTest(Checked):

    def test_results_as_any_values(self):
        for one, other in ((WIDE, WIDE), (LITERAL, LITERAL), (WIDE, (WIDE[0], (), 0))):
            value = clash(one, other)
            found = [value, pairs(one, other), agreement(one, other), local_clash(one, other), clash_size(one, other)]
            if value is not None:
                found.extend([value[0], row_sizes(value[0]), unfolded(one, other, value)])
                found.extend(unfolded(one, other, value))
                found.append(derived_pair(one, other, value[0]))
            for result in found:
                self.assert_result_may_be_any_value(one, other, result, value)

    def assert_result_may_be_any_value(self, one, other, result, value):
        clashes = [] if value is None else [value, local_clash(one, other)]
        self.assertIs(self.call(shows_clash, one, other, result), result is not None and result in clashes)
        self.assertEqual(self.call(is_closed, one, other, result), result == pairs(one, other))
        self.assertEqual(self.call(shows_agreement, one, other, result), result == pairs(one, other) and value is None)
        derived = self.call(derived_pair, one, other, result)
        self.assertEqual(derived is not None, value is not None and result == value[0])
        expected = 'bit' if result == ('input', ()) else None
        self.assertEqual(self.call(reading_kind, one, ('bit',), ('input', 0), result), expected)

    def test_large_unfolded_results(self):
        one = (WIDE[0], (
            WIDE[1][0], ('definition', 'same', ('bit', 'bit'), 'bit', (0,) * 4),
            ('definition', 'same', ('int', 'int'), 'int', (3,) * 16),
        ), 1)
        rows = [('input', 'bit', 1), ('call', 'same', ('bit',) * 3, ('int',) * 3, ((0, (), ('widen',)),) * 2)]
        for at in range(98):
            rows.append(('call', 'same', ('bit',) * 3, ('int',) * 3, ((at + 1, (), ()), (0, (), ('widen',)))))
        found = unfolded(one, one, (tuple(rows), ('widen',), ()))
        input_kinds, expression, reading, other_reading, inputs = found
        self.assertEqual((len(input_kinds), size(expression), height(expression)), (100, 199, 100))
        self.assertEqual(inputs_used(expression), tuple(range(100)))
        self.assertEqual(operators_used(expression), ('same',))
        self.assertIs(is_expression(one, input_kinds, expression), False)
        self.assertEqual(substituted(expression, tuple([('input', at) for at in range(100)])), expression)
        task = (one, input_kinds, expression)
        self.assertEqual(kinds_of(*task), ('bit', 'int'))
        # As 'int', each call is read by int, above one that is read in all these ways, or by bit and is widened.
        self.assertEqual(reading_count(*task, 'bit'), 1)
        self.assertEqual(reading_count(*task, 'int'), 100)
        for part_of in (reading, other_reading):
            self.assertEqual(reading_kind(*task, part_of), 'int')
            number = reading_number(*task, part_of)
            self.assertEqual(reading_at(*task, 'int', number), part_of)
        values = {value_of(*task, reading, inputs), value_of(*task, other_reading, inputs)}
        self.assertEqual(values, {0, 3})
        self.assertEqual(results(*task, 'int', inputs), (0, 3))
        for value in found + (found, rows, tuple(rows)):
            self.assertIs(shows_clash(one, one, value), False)
            self.assertIs(is_closed(one, one, value), False)
        self.assertEqual(derived_pair(one, one, tuple(rows)), (('bit', 0), ('int', 3)))
