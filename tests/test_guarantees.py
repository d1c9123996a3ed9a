"""The guarantees of section 4 over all modules: expressions, relations, clashes and local clashes together."""

import itertools
import random

from samereading.clashes import clash, clash_size, derived_pair, row_sizes, shows_clash, unfolded
from samereading.errors import BadCommand, BadItem, BadKinds, BadLimit, BadText, Incoherent, NoPlace
from samereading.expressions import height, inputs_used, is_expression, operators_used, size, substituted
from samereading.library import part
from samereading.local import local_agree, local_clash
from samereading.parts import conservative, core, cores, is_core, kept, repairs
from samereading.readings import kinds_of, reading_at, reading_count, reading_kind, reading_number, results, value_of
from samereading.registry import Registry
from samereading.relation import agree, agreement, coherent, is_closed, pair_clashes, pairs, shows_agreement
from samereading.session import Session
from samereading.texts import read_expression, read_item, read_library, show_expression, show_item, show_library
from tests import plain
from tests.samples import LITERAL, WIDE, Checked
from tests.small import some_busy_libraries, some_expression, some_item, some_versions


def values_by_expression(one, other, most):
    """(size, kind, values in one, values in other) of all expressions of few nodes over inputs that differ."""
    kinds = [kind for kind, _ in one[0]]
    counts = dict(one[0])
    for many in range(1, most + 1):
        for expression in plain.expressions(one, many, 'fg', [('input', 0)]):
            numbers = itertools.count()
            uses = str(expression).count("('input'")
            expression = renumbered(expression, numbers)
            for input_kinds in itertools.product(kinds, repeat=uses):
                read = [kinds_of(library, input_kinds, expression) for library in (one, other)]
                for kind in sorted(set(read[0]) & set(read[1])):
                    for inputs in itertools.product(*[range(counts[start]) for start in input_kinds]):
                        task = (input_kinds, expression, kind, inputs)
                        yield many, results(one, *task), results(other, *task)


def renumbered(expression, numbers):
    if expression[0] == 'input':
        return ('input', next(numbers))
    if expression[0] == 'cast':
        return expression[:2] + (renumbered(expression[2], numbers),)
    return expression[:2] + (tuple([renumbered(child, numbers) for child in expression[2]]),)


class GuaranteesTest(Checked):

    def test_agreement_is_that_of_all_small_expressions(self):
        # (a), (b), (c) and (d): up to three nodes, over all inputs.
        found = {}
        for one, other in some_versions(160, 69, 7):
            least = clash_size(one, other)
            found[least] = found.get(least, 0) + 1
            smallest = None
            for many, first, second in values_by_expression(one, other, 3):
                self.assertTrue(first and second)
                if smallest is None and (first != second or len(first) > 1):
                    smallest = many
            self.assertEqual(smallest, least if least in (1, 2, 3) else None, (one, other))
        self.assertTrue(found[None] > 80 and min([found.get(least, 0) for least in (1, 2, 3)]) > 1, found)

    def test_either_an_agreement_or_a_clash_is_shown(self):
        for one, other in some_versions(300, 62, 8):
            shown = agreement(one, other)
            value = clash(one, other)
            self.assertEqual(shown is None, value is not None)
            self.assertIs(agree(one, other), value is None)
            if shown is not None:
                self.assertIs(shows_agreement(one, other, shown), True)
                self.assertIs(any([pair_clashes(one, other, pair) for pair in shown]), False)
                self.assertIs(local_agree(one, other), True)
            else:
                self.assertIs(shows_clash(one, other, value), True)
                self.assertIs(shows_agreement(one, other, pairs(one, other)), False)
                self.assertIs(is_closed(one, other, pairs(one, other)), True)

    def test_coherent_is_agreeing_with_itself(self):
        for one, _ in some_versions(200, 63, 8):
            self.assertIs(coherent(one), agree(one, one))
            self.assertEqual(coherent(one), clash(one, one) is None)

    def test_agreeing_both_ways_round(self):
        for one, other in some_versions(200, 64, 8):
            self.assertIs(agree(one, other), agree(other, one))
            self.assertEqual(clash_size(one, other), clash_size(other, one))
            self.assertIs(local_agree(one, other), local_agree(other, one))
            swapped = tuple(sorted([(second, first) for first, second in pairs(one, other)]))
            self.assertEqual(pairs(other, one), swapped)

    def test_a_part_of_a_coherent_library_is_coherent(self):
        source = random.Random(65)
        many = 0
        for one, _ in some_versions(200, 66, 8):
            if one[1] and coherent(one):
                places = tuple(sorted(source.sample(range(len(one[1])), source.randint(0, len(one[1])))))
                self.assertIs(coherent(part(one, places)), True)
                many += 1
        self.assertGreater(many, 50)

    def test_order_of_items_and_larger_limits(self):
        for one, other in some_versions(100, 67, 8):
            turned = (one[0], one[1][::-1], one[2])
            self.assertEqual(pairs(turned, other), pairs(one, other))
            self.assertEqual(clash_size(turned, other), clash_size(one, other))
            longer = (one[0], one[1], 4)
            self.assertLessEqual(set(pairs(one, other)), set(pairs(longer, other)))


class PartsAndChangesTest(Checked):
    """(e) and (g), and what parts, registries, texts and sessions have to do with readings and clashes."""

    def test_cores_and_repairs(self):
        several = 0
        for library in some_busy_libraries(120, 161):
            places = tuple(range(len(library[1])))
            found = cores(library)
            for this in found:
                self.assertIs(coherent(part(library, this)), False)
                self.assertIs(is_core(library, this), True)
                for place in this:
                    self.assertIs(coherent(part(library, tuple([other for other in this if other != place]))), True)
            for missing in repairs(library):
                left = tuple([place for place in places if place not in missing])
                self.assertIs(coherent(part(library, left)), True)
                self.assertEqual(kept(library, left + missing), left)
                self.assertTrue(all([set(missing) & set(this) for this in found]))
            self.assertEqual(found == (), coherent(library))
            self.assertEqual(core(library) is None, coherent(library))
            several += len(found) > 1
        self.assertGreater(several, 15)

    def test_an_item_is_refused_with_the_size_of_the_smallest_expression_with_two_values(self):
        refused = {}
        for library in some_busy_libraries(90, 162, 5):
            registry = Registry(library[0], library[2])
            for item in library[1]:
                longer = (library[0], registry.library()[1] + (item,), library[2])
                try:
                    registry.add(item)
                    found = None
                except Incoherent as error:
                    found = error.size
                smallest = None
                for many, values, _ in values_by_expression(longer, longer, 3):
                    if len(values) > 1 and (smallest is None or many < smallest):
                        smallest = many
                self.assertEqual(smallest, found if found in (1, 2, 3) else None, longer)
                refused[found] = refused.get(found, 0) + 1
        self.assertTrue(min([refused.get(size, 0) for size in (None, 1, 2, 3)]) > 1, refused)

    def test_existing_expressions_keep_their_values(self):
        # (d): an item that a registry takes, or that is conservative, changes no value that there was.
        source = random.Random(163)
        taken = 0
        for library in some_busy_libraries(120, 164):
            library = part(library, kept(library, tuple(range(len(library[1])))))
            item = some_item(source, library[0], 15)
            registry = Registry(library[0], library[2])
            self.assertEqual(registry.offer(library[1]), (True,) * len(library[1]))
            if not registry.accepts(item):
                continue
            self.assertIs(conservative(library, item), True)
            registry.add(item)
            input_kinds = tuple([source.choice(library[0])[0] for _ in range(3)])
            inputs = tuple([source.randrange(dict(library[0])[kind]) for kind in input_kinds])
            for _ in range(10):
                expression = some_expression(source, library, input_kinds, 4)
                for kind in kinds_of(library, input_kinds, expression):
                    task = (input_kinds, expression, kind, inputs)
                    self.assertEqual(results(registry.library(), *task), results(library, *task))
                    self.assertEqual(len(results(library, *task)), 1)
            taken += 1
        self.assertGreater(taken, 50)

    def test_texts_are_read_back(self):
        source = random.Random(165)
        for library in some_busy_libraries(120, 166):
            self.assertEqual(read_library(show_library(library)), library)
            for item in library[1]:
                self.assertEqual(read_item(library[0], show_item(item)), item)
            input_kinds = (library[0][0][0],) * 3
            expression = some_expression(source, library, input_kinds, 6)
            if is_expression(library, input_kinds, expression):
                text = show_expression(expression)
                self.assertEqual(read_expression(library, input_kinds, text), expression)
                self.assertEqual(show_expression(read_expression(library, input_kinds, text)), text)

    def test_the_expressions_of_clashes_as_texts(self):
        shown = 0
        for one, other in some_versions(200, 167, 8):
            value = clash(one, other)
            if value is not None:
                input_kinds, expression, reading, _, inputs = unfolded(one, other, value)
                if is_expression(one, input_kinds, expression):
                    text = show_expression(expression)
                    self.assertEqual(read_expression(one, input_kinds, text), expression)
                    shown += 1
                if coherent(one) and is_expression(one, input_kinds, expression) and len(input_kinds) < 9:
                    kind = reading_kind(one, input_kinds, expression, reading)
                    words = [kind, ','.join(input_kinds) or '-', ','.join([str(number) for number in inputs]) or '-']
                    answer = Session(show_library(one)).run(' '.join(['value'] + words + [text]))
                    self.assertEqual(answer, str(value_of(one, input_kinds, expression, reading, inputs)))
        self.assertGreater(shown, 40)

    def test_a_registry_and_a_session_go_the_same_way(self):
        source = random.Random(168)
        for library in some_busy_libraries(50, 169):
            registry = Registry(library[0], library[2])
            registry.offer(library[1])
            session = Session(show_library(library))
            for number in range(10):
                item = some_item(source, library[0], number)
                text = show_item(item)
                self.assertEqual(session.run('accepts ' + text), 'yes' if registry.accepts(item) else 'no')
                if registry.accepts(item):
                    self.assertEqual(session.run('add ' + text), 'ok')
                    registry.add(item)
                if len(registry) > 2 and number % 3 == 0:
                    self.assertEqual(session.run('remove 1'), show_item(registry.remove(1)))
                if number % 4 == 0:
                    self.assertEqual(session.run('undo'), 'ok')
                    registry.undo()
                self.assertEqual(session.run('show').split(' / '), show_library(registry.library()).split('\n'))


class PassedInAgainTest(Checked):

    def test_results_as_any_values(self):
        for one, other in ((WIDE, WIDE), (LITERAL, LITERAL), (WIDE, (WIDE[0], (), 0))):
            value = clash(one, other)
            found = [value, pairs(one, other), agreement(one, other), local_clash(one, other), clash_size(one, other)]
            if value is not None:
                found.extend([value[0], row_sizes(value[0]), unfolded(one, other, value)])
                found.extend(unfolded(one, other, value))
                found.append(derived_pair(one, other, value[0]))
            for result in found:
                self.assert_result_may_be_any_value(one, other, result, value)

    def assert_result_may_be_any_value(self, one, other, result, value):
        clashes = [] if value is None else [value, local_clash(one, other)]
        self.assertIs(self.call(shows_clash, one, other, result), result is not None and result in clashes)
        self.assertEqual(self.call(is_closed, one, other, result), result == pairs(one, other))
        self.assertEqual(self.call(shows_agreement, one, other, result), result == pairs(one, other) and value is None)
        derived = self.call(derived_pair, one, other, result)
        self.assertEqual(derived is not None, value is not None and result == value[0])
        expected = 'bit' if result == ('input', ()) else None
        self.assertEqual(self.call(reading_kind, one, ('bit',), ('input', 0), result), expected)

    def assert_is_nothing_else(self, value):
        """No item, kinds, limit, place, text or line is any result of another function."""
        registry = Registry(WIDE[0])
        registry.add(WIDE[1][0])
        session = Session(show_library(WIDE))
        self.assertIs(registry.accepts(value), False)
        self.assertEqual(registry.offer((value,)), (False,))
        self.assertIs(registry == value, False)
        self.assert_error(BadItem, {'item': value}, registry.add, value)
        self.assert_error(BadItem, {'item': value}, conservative, WIDE, value)
        self.assert_error(NoPlace, {'value': value}, registry.remove, value)
        self.assert_error(BadKinds, {'value': value}, Registry, value)
        self.assert_error(BadLimit, {'value': value}, Registry, WIDE[0], value)
        self.assert_error(BadText, {'position': 0}, Session, value)
        self.assert_error(BadText, {'position': 0}, read_library, value)
        self.assert_error(BadText, {'position': 0}, read_item, WIDE[0], value)
        self.assert_error(BadText, {'position': 0}, read_expression, WIDE, ('bit',), value)
        self.assert_error(BadCommand, {'line': value}, session.run, value)
        self.assertEqual((registry.library(), registry.changes()), ((WIDE[0], WIDE[1][:1], 1), 2))

    def test_results_are_no_items_and_no_texts(self):
        value = clash(WIDE, WIDE)
        found = unfolded(WIDE, WIDE, value)
        for result in (value, value[0], found, pairs(WIDE, WIDE), core(WIDE), cores(WIDE), repairs(WIDE)) + found:
            self.assert_is_nothing_else(result)
        for result in (WIDE, WIDE[1], (WIDE,), (WIDE[1][1],), [WIDE[1][1]], {'item': WIDE[1][1]}):
            self.assert_is_nothing_else(result)

    def test_large_unfolded_results(self):
        one = (WIDE[0], (
            WIDE[1][0], ('definition', 'same', ('bit', 'bit'), 'bit', (0,) * 4),
            ('definition', 'same', ('int', 'int'), 'int', (3,) * 16),
        ), 1)
        rows = [('input', 'bit', 1), ('call', 'same', ('bit',) * 3, ('int',) * 3, ((0, (), ('widen',)),) * 2)]
        for at in range(98):
            rows.append(('call', 'same', ('bit',) * 3, ('int',) * 3, ((at + 1, (), ()), (0, (), ('widen',)))))
        found = unfolded(one, one, (tuple(rows), ('widen',), ()))
        input_kinds, expression, reading, other_reading, inputs = found
        self.assertEqual((len(input_kinds), size(expression), height(expression)), (100, 199, 100))
        self.assertEqual(inputs_used(expression), tuple(range(100)))
        self.assertEqual(operators_used(expression), ('same',))
        self.assertIs(is_expression(one, input_kinds, expression), False)
        self.assertEqual(substituted(expression, tuple([('input', at) for at in range(100)])), expression)
        task = (one, input_kinds, expression)
        self.assertEqual(kinds_of(*task), ('bit', 'int'))
        # As 'int', each call is read by int, above one that is read in all these ways, or by bit and is widened.
        self.assertEqual(reading_count(*task, 'bit'), 1)
        self.assertEqual(reading_count(*task, 'int'), 100)
        for part_of in (reading, other_reading):
            self.assertEqual(reading_kind(*task, part_of), 'int')
            number = reading_number(*task, part_of)
            self.assertEqual(reading_at(*task, 'int', number), part_of)
        values = {value_of(*task, reading, inputs), value_of(*task, other_reading, inputs)}
        self.assertEqual(values, {0, 3})
        self.assertEqual(results(*task, 'int', inputs), (0, 3))
        text = show_expression(expression)
        self.assert_error(BadText, {'position': len(text)}, read_expression, one, input_kinds, text)
        self.assert_error(BadText, {'position': 99 * len('same(')}, read_expression, one, (), text)
        for value in found + (found, rows, tuple(rows)):
            self.assert_is_nothing_else(value)
            self.assertIs(shows_clash(one, one, value), False)
            self.assertIs(is_closed(one, one, value), False)
        self.assertEqual(derived_pair(one, one, tuple(rows)), (('bit', 0), ('int', 3)))
