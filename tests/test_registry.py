import itertools
import random
import unittest
from unittest import mock

from samereading.clashes import clash_size
from samereading.errors import BadItem, BadKinds, BadLimit, Incoherent, NoPlace, NothingToUndo, ReadingError
from samereading.library import extended, is_item, is_library
from samereading.parts import conservative, kept
from samereading.registry import Registry
from samereading.relation import coherent
from tests import plain, plain_parts
from tests.samples import (
    ADDB, ADDI, BIGS, KINDS, LITERAL, ONES, WIDE, WIDEN, WRONG, WRONG_WHOLE, Checked, deep_values, reshaped,
    spoiled,
)
from tests.small import some_busy_libraries, some_item
from tests.test_library import many_definitions

BIT = (('bit', 2),)
NARROW = ('conversion', 'narrow', 'int', 'bit', False, (0, 1, 0, 1))
SAME_NAME = ('conversion', 'widen', 'int', 'bit', False, (0, 0, 1, 1))
SAME_SIGNATURE = ADDI[:4] + ((0,) * 16,)
NO_ITEMS = (None, 7, True, '', 'widen', (), [], {}, list(WIDEN), WIDEN[:5], ADDB + (0,), (WIDEN,), WIDE, KINDS)


def with_items(items, kinds=KINDS, limit=1):
    """A registry in which some items are added one by one."""
    registry = Registry(kinds, limit)
    for item in items:
        registry.add(item)
    return registry


class RegistryTest(Checked):

    def assert_state(self, registry, items, changes):
        kinds, _, limit = registry.library()
        self.assertEqual(registry.library(), (kinds, tuple(items), limit))
        self.assertIs(type(registry.library()[1]), tuple)
        self.assertEqual(len(registry), len(items))
        self.assertEqual(registry.changes(), changes)

    def assert_refused(self, registry, error, kept_values, method, *values):
        """The method raises the error each time, and the registry stays as it was."""
        before = (repr(registry.library()), len(registry), registry.changes())
        self.assert_error(error, kept_values, method, *values)
        self.assertEqual((repr(registry.library()), len(registry), registry.changes()), before)


class NewTest(RegistryTest):

    def test_examples(self):
        value = (('int', 4), ('bit', 2))
        self.assert_error(BadKinds, {'value': value}, Registry, value)

    def test_starts_without_items(self):
        for limit in range(5):
            registry = Registry(KINDS, limit)
            self.assertEqual(registry.library(), (KINDS, (), limit))
            self.assert_state(registry, (), 0)
            self.assertIs(is_library(registry.library()), True)

    def test_the_limit_is_one_if_it_is_left_out(self):
        self.assertEqual(Registry(KINDS).library(), (KINDS, (), 1))
        self.assertEqual(Registry(kinds=KINDS).library()[2], 1)
        self.assertEqual(Registry(limit=3, kinds=KINDS).library()[2], 3)

    def test_wrong_limits(self):
        for limit in (-1, 5, 10 ** 30, True, False, None, '1', '', (), (1,), [1], {}, {1: 1}) + deep_values(30):
            self.assert_error(BadLimit, {'value': limit}, Registry, KINDS, limit)

    def test_wrong_kinds(self):
        seven = tuple([(letter, 1) for letter in 'abcdefg'])
        values = ((), KINDS[::-1], BIT + BIT, seven, list(KINDS), dict(KINDS), (('bit', 0),), (('bit', 9),),
                  (('Bit', 2),), (('bit', True),), (('abcdefghi', 2),), WIDE)
        for value in values + WRONG_WHOLE + tuple(spoiled(KINDS)):
            self.assert_error(BadKinds, {'value': value}, Registry, value)

    def test_kinds_are_checked_ahead_of_the_limit(self):
        for limit in (-1, 5, None, True, 1):
            self.assert_error(BadKinds, {'value': None}, Registry, None, limit)

    def test_each_is_independent_of_the_others(self):
        first, second = Registry(KINDS), Registry(KINDS)
        first.add(WIDEN)
        self.assert_state(first, (WIDEN,), 1)
        self.assert_state(second, (), 0)


class AddTest(RegistryTest):

    def test_examples(self):
        registry = Registry(KINDS)
        self.assertEqual(registry.offer((WIDEN, ADDI, ADDB)), (True, True, False))
        self.assert_false(registry.accepts, ADDB)
        self.assertEqual(registry.remove(0), WIDEN)
        self.assert_true(registry.accepts, ADDB)
        self.assertEqual(len(registry), 1)
        self.assert_refused(registry, BadItem, {'item': 7}, registry.add, 7)
        other = with_items((('definition', 'one', (), 'int', (1,)), ('definition', 'one', (), 'bit', (1,))))
        item = ('conversion', 'widen', 'bit', 'int', True, (0, 3))
        self.assert_refused(other, Incoherent, {'size': 1}, other.add, item)

    def test_adds_as_the_last_one_and_returns_none(self):
        registry = Registry(KINDS)
        items = ()
        for item in (WIDEN, NARROW, ADDI) + ONES:
            self.assert_true(registry.accepts, item)
            self.assertIsNone(registry.add(item))
            items += (item,)
            self.assert_state(registry, items, len(items))

    def test_what_the_library_has_already(self):
        registry = with_items((WIDEN, ADDI))
        for item in (WIDEN, ADDI, SAME_NAME, SAME_SIGNATURE):
            self.assert_refused(registry, BadItem, {'item': item}, registry.add, item)
            self.assert_false(registry.accepts, item)
        for item in (('definition', 'widen', (), 'bit', (0,)), ('definition', 'add', ('int',), 'int', (0,) * 4),
                     NARROW):
            self.assert_true(registry.accepts, item)

    def test_items_of_other_kinds(self):
        registry = Registry(BIT)
        for item in (WIDEN, ADDI, ('definition', 'f', ('bit',), 'bit', (0, 2))):
            self.assert_refused(registry, BadItem, {'item': item}, registry.add, item)
            self.assert_false(registry.accepts, item)

    def test_at_most_thirty_items(self):
        items = many_definitions(32)
        registry = Registry(KINDS)
        self.assertEqual(registry.offer(items), (True,) * 30 + (False, False))
        self.assert_state(registry, items[:30], 1)
        for item in items[30:] + items[:1] + (7,):
            self.assert_refused(registry, BadItem, {'item': item}, registry.add, item)
            self.assert_false(registry.accepts, item)
        self.assertEqual(registry.remove(0), items[0])
        self.assert_true(registry.accepts, items[30])
        self.assertIsNone(registry.add(items[30]))
        self.assert_state(registry, items[1:31], 3)

    def test_sizes_of_clashes(self):
        neg = (('definition', 'neg', ('bit',), 'bit', (1, 0)), ('definition', 'neg', ('int',), 'int', (0, 3, 2, 1)))
        rows = (
            ((WIDEN,), ('conversion', 'other', 'bit', 'int', True, (0, 2)), 1),
            (ONES, ('conversion', 'widen', 'bit', 'int', True, (0, 3)), 1),
            ((WIDEN, neg[0]), neg[1], 2),
            ((WIDEN, ADDI), ADDB, 3),
        )
        for items, item, size in rows:
            registry = with_items(items)
            self.assert_refused(registry, Incoherent, {'size': size}, registry.add, item)
            self.assert_false(registry.accepts, item)
        literal = with_items(LITERAL[1][:5], limit=0)
        self.assert_refused(literal, Incoherent, {'size': 4}, literal.add, BIGS[1])

    def test_a_large_size(self):
        # Each step doubles the expression by an operator of its own; only the last value tells two ways apart.
        letters = 'abcdefghijklmnopqrstuvwxyz'
        kinds = (('a', 8), ('b', 8))
        steps = (1, 2, 3, 4, 5, 6, 7)

        def table(step):
            return tuple([step if x == y == step - 1 else 0 for x in range(8) for y in range(8)])

        items = [('definition', 'start', (), 'a', (0,)), ('definition', 'start', (), 'b', (0,))]
        for step in steps[:-1]:
            name = 'f' + letters[step]
            items.extend([('definition', name, (kind, kind), kind, table(step)) for kind in 'ab'])
        registry = with_items(items, kinds, 0)
        self.assertEqual(len(registry), 14)
        last = ('definition', 'end', ('a',), 'a', (0, 0, 0, 0, 0, 0, 1, 0))
        other = ('definition', 'end', ('b',), 'a', (0,) * 8)
        registry.add(last)
        size = clash_size(extended(registry.library(), other), extended(registry.library(), other))
        self.assertEqual(size, 1 + 2 ** 7 - 1)
        self.assert_refused(registry, Incoherent, {'size': size}, registry.add, other)

    def test_bad_items_ahead_of_clashes(self):
        # The limit of items and a further item of the same name are told even where the item would clash.
        items = many_definitions(28) + (WIDEN, ADDI)
        registry = Registry(KINDS)
        registry.offer(items)
        self.assert_refused(registry, BadItem, {'item': ADDB}, registry.add, ADDB)
        clashing = WIDEN[:5] + ((0, 2),)
        self.assert_refused(registry, BadItem, {'item': clashing}, registry.add, clashing)

    def test_any_value(self):
        registry = with_items((WIDEN,))
        values = NO_ITEMS + WRONG_WHOLE + tuple(spoiled(ADDB)) + tuple(spoiled(NARROW)) + tuple(spoiled(ONES[0]))
        for value in values:
            self.assert_false(registry.accepts, value)
            self.assert_refused(registry, BadItem, {'item': value}, registry.add, value)
        self.assert_state(registry, (WIDEN,), 1)

    def test_values_of_other_shapes(self):
        registry = with_items((WIDEN, ADDI))
        for value in reshaped(ADDB) + reshaped(BIGS[0]) + reshaped(NARROW):
            longer = (KINDS, (WIDEN, ADDI, value), 1)
            expected = is_library(longer) and coherent(longer)
            self.assertIs(registry.accepts(value), expected, value)
            again = registry.copy()
            if expected:
                again.add(value)
                self.assertEqual(again.library(), longer)
            else:
                self.assertRaises((BadItem, Incoherent), again.add, value)
                self.assertEqual(again, registry)

    def test_against_the_plain_definitions(self):
        refused = {}
        for library in some_busy_libraries(150, 101):
            registry = Registry(library[0], library[2])
            for item in library[1]:
                longer = extended(registry.library(), item)
                behaviours = plain.Behaviours(longer, longer, 1500)
                size = behaviours.clash_size()
                is_coherent = plain_parts.coherent(longer)
                self.assertIs(registry.accepts(item), is_coherent)
                if is_coherent:
                    self.assertIsNone(size)
                    self.assertIsNone(registry.add(item))
                else:
                    with self.assertRaises(Incoherent) as found:
                        registry.add(item)
                    self.assertEqual(found.exception.size, clash_size(longer, longer))
                    if behaviours.is_whole:
                        self.assertEqual(found.exception.size, size)
                        refused[size] = refused.get(size, 0) + 1
        self.assertTrue(min([refused.get(size, 0) for size in (1, 2, 3)]) > 1, refused)


class OfferTest(RegistryTest):

    def test_example(self):
        registry = Registry(BIT, 0)
        items = (('definition', 'no', (), 'bit', (0,)), ('definition', 'no', (), 'bit', (1,)), 5)
        self.assertEqual(registry.offer(items), (True, False, False))
        self.assertIsNone(registry.undo())
        self.assert_state(registry, (), 0)

    def test_is_one_change(self):
        registry = Registry(KINDS)
        self.assertEqual(registry.offer((WIDEN, NARROW) + ONES), (True,) * 4)
        self.assert_state(registry, (WIDEN, NARROW) + ONES, 1)
        self.assertEqual(registry.offer((ADDI, ADDB)), (True, False))
        self.assert_state(registry, (WIDEN, NARROW) + ONES + (ADDI,), 2)

    def test_is_one_change_also_if_nothing_is_added(self):
        registry = with_items((WIDEN,))
        for many, items in enumerate(((), (7,), (WIDEN,), (SAME_NAME, None), NO_ITEMS), start=2):
            self.assertEqual(registry.offer(items), (False,) * len(items))
            self.assert_state(registry, (WIDEN,), many)
        for many in range(5, 0, -1):
            registry.undo()
            self.assert_state(registry, (WIDEN,), many)
        registry.undo()
        self.assert_state(registry, (), 0)

    def test_one_item_twice(self):
        registry = Registry(KINDS)
        self.assertEqual(registry.offer((WIDEN, WIDEN, SAME_NAME, ADDI, WIDEN)), (True, False, False, True, False))
        self.assert_state(registry, (WIDEN, ADDI), 1)

    def test_what_is_left_out_does_not_hinder(self):
        registry = Registry(KINDS)
        self.assertEqual(registry.offer((ADDB, WIDEN, ADDI, ONES[0])), (True, True, False, True))
        self.assert_state(registry, (ADDB, WIDEN, ONES[0]), 1)

    def test_returns_a_tuple_of_booleans(self):
        found = Registry(KINDS).offer((WIDEN, 7))
        self.assertIs(type(found), tuple)
        self.assertEqual([value is True for value in found], [True, False])
        self.assertIs(found[1], False)

    def test_any_values(self):
        values = WRONG_WHOLE + NO_ITEMS + tuple(spoiled(ONES[0]))
        registry = with_items((WIDEN,))
        before = repr(values)
        self.assertEqual(registry.offer(values[:200] + (ADDI,) + values[200:]),
                         (False,) * 200 + (True,) + (False,) * (len(values) - 200))
        self.assertEqual(repr(values), before)
        self.assert_state(registry, (WIDEN, ADDI), 2)

    def test_is_what_is_kept(self):
        for library in some_busy_libraries(150, 102):
            registry = Registry(library[0], library[2])
            found = registry.offer(library[1])
            places = kept(library, range(len(library[1])))
            self.assertEqual(found, tuple([at in places for at in range(len(library[1]))]))
            self.assert_state(registry, [library[1][at] for at in places], 1)
            self.assertIs(coherent(registry.library()), True)

    def test_is_adding_one_after_the_other(self):
        for library in some_busy_libraries(80, 103):
            first, second = Registry(library[0], library[2]), Registry(library[0], library[2])
            answers = []
            for item in library[1] + library[1][:1] + (None,):
                answers.append(second.accepts(item))
                if answers[-1]:
                    second.add(item)
            self.assertEqual(first.offer(library[1] + library[1][:1] + (None,)), tuple(answers))
            self.assertEqual(first, second)


class RemoveTest(RegistryTest):

    def test_example(self):
        registry = Registry(BIT)
        self.assert_refused(registry, NoPlace, {'value': 0}, registry.remove, 0)

    def test_returns_the_item(self):
        items = (WIDEN, NARROW, ADDI) + ONES
        for place in range(5):
            registry = with_items(items)
            self.assertEqual(registry.remove(place), items[place])
            self.assert_state(registry, items[:place] + items[place + 1:], 6)
            self.assert_true(registry.accepts, items[place])

    def test_by_name(self):
        registry = with_items((WIDEN,))
        self.assertEqual(registry.remove(place=0), WIDEN)

    def test_no_places(self):
        registry = with_items((WIDEN, ADDI))
        for value in (-1, -2, 2, 3, 10 ** 30, True, False, None, '0', '', (0,), [0], {}, {0: 0}, 'widen', WIDEN):
            self.assert_refused(registry, NoPlace, {'value': value}, registry.remove, value)
        for value in WRONG:
            self.assert_refused(registry, NoPlace, {'value': value}, registry.remove, value)
        for value in (0, -1, 1):
            empty = Registry(KINDS)
            self.assert_refused(empty, NoPlace, {'value': value}, empty.remove, value)

    def test_the_last_of_thirty(self):
        registry = Registry(KINDS)
        items = many_definitions(30)
        registry.offer(items)
        self.assert_refused(registry, NoPlace, {'value': 30}, registry.remove, 30)
        self.assertEqual(registry.remove(29), items[29])
        self.assert_refused(registry, NoPlace, {'value': 29}, registry.remove, 29)


class UndoTest(RegistryTest):

    def test_nothing_to_undo(self):
        registry = Registry(KINDS)
        self.assert_refused(registry, NothingToUndo, {}, registry.undo)
        registry.add(WIDEN)
        self.assertIsNone(registry.undo())
        self.assert_refused(registry, NothingToUndo, {}, registry.undo)
        self.assert_state(registry, (), 0)

    def test_of_each_kind_of_change(self):
        registry = with_items((WIDEN, ADDI))
        registry.add(NARROW)
        registry.undo()
        self.assert_state(registry, (WIDEN, ADDI), 2)
        registry.offer(ONES + (7,))
        registry.undo()
        self.assert_state(registry, (WIDEN, ADDI), 2)
        registry.offer((7, WIDEN))
        registry.undo()
        self.assert_state(registry, (WIDEN, ADDI), 2)
        registry.remove(0)
        registry.undo()
        self.assert_state(registry, (WIDEN, ADDI), 2)

    def test_a_removed_item_comes_back_to_its_place(self):
        items = (WIDEN, NARROW, ADDI) + ONES
        for place in range(5):
            registry = with_items(items)
            registry.remove(place)
            registry.undo()
            self.assert_state(registry, items, 5)

    def test_in_reverse_order(self):
        registry = Registry(KINDS)
        states = [()]
        registry.add(WIDEN)
        states.append((WIDEN,))
        registry.offer((ADDI, ADDB) + ONES)
        states.append((WIDEN, ADDI) + ONES)
        registry.remove(0)
        states.append((ADDI,) + ONES)
        registry.add(ADDB)
        states.append((ADDI,) + ONES + (ADDB,))
        for many in range(4, -1, -1):
            self.assert_state(registry, states[many], many)
            if many:
                self.assertIsNone(registry.undo())
        self.assert_refused(registry, NothingToUndo, {}, registry.undo)

    def test_changes_after_an_undo(self):
        registry = with_items((WIDEN, ADDI))
        registry.undo()
        registry.add(ADDB)
        self.assert_state(registry, (WIDEN, ADDB), 2)
        registry.undo()
        registry.undo()
        self.assert_state(registry, (), 0)
        registry.add(ADDB)
        self.assert_state(registry, (ADDB,), 1)

    def test_errors_are_no_changes(self):
        registry = with_items((WIDEN, ADDI))
        self.assertRaises(BadItem, registry.add, None)
        self.assertRaises(Incoherent, registry.add, ADDB)
        self.assertRaises(NoPlace, registry.remove, 2)
        registry.accepts(NARROW)
        self.assert_state(registry, (WIDEN, ADDI), 2)
        registry.undo()
        self.assert_state(registry, (WIDEN,), 1)

    def test_after_thirty_items(self):
        items = many_definitions(31)
        registry = Registry(KINDS)
        registry.offer(items[:30])
        registry.remove(3)
        registry.add(items[30])
        registry.undo()
        registry.undo()
        self.assert_state(registry, items[:30], 1)
        self.assert_false(registry.accepts, items[30])


class CopyTest(RegistryTest):

    def test_same_state(self):
        registry = with_items((WIDEN, ADDI))
        registry.remove(0)
        other = registry.copy()
        self.assertIs(type(other), Registry)
        self.assertIsNot(other, registry)
        self.assertEqual(other, registry)
        self.assert_state(other, (ADDI,), 3)
        other.undo()
        self.assert_state(other, (WIDEN, ADDI), 2)
        self.assert_state(registry, (ADDI,), 3)

    def test_each_goes_its_own_way(self):
        registry = with_items((WIDEN,))
        other = registry.copy()
        other.add(ADDB)
        registry.offer((ADDI, ADDB))
        self.assert_state(registry, (WIDEN, ADDI), 2)
        self.assert_state(other, (WIDEN, ADDB), 2)
        third = other.copy()
        registry.undo()
        registry.undo()
        self.assert_state(registry, (), 0)
        self.assert_state(other, (WIDEN, ADDB), 2)
        other.remove(1)
        self.assert_state(third, (WIDEN, ADDB), 2)
        for many in (1, 0):
            third.undo()
            self.assertEqual(third.changes(), many)
        self.assertRaises(NothingToUndo, third.undo)
        self.assert_state(other, (WIDEN,), 3)

    def test_of_a_new_registry(self):
        for limit in range(5):
            other = Registry(KINDS, limit).copy()
            self.assertEqual(other.library(), (KINDS, (), limit))
            self.assert_refused(other, NothingToUndo, {}, other.undo)


class EqualTest(RegistryTest):

    def assert_equal_is(self, expected, first, second):
        for one, other in ((first, second), (second, first)):
            self.assertIs(one == other, expected)
            self.assertIs(one != other, not expected)

    def test_equal_libraries(self):
        self.assert_equal_is(True, Registry(KINDS), Registry(KINDS, 1))
        first = with_items((WIDEN, ADDI))
        second = Registry(KINDS)
        second.offer((WIDEN, ADDI, ADDB))
        self.assert_equal_is(True, first, second)
        self.assert_equal_is(True, first, first)
        self.assertNotEqual(first.changes(), second.changes())

    def test_different_libraries(self):
        self.assert_equal_is(False, Registry(KINDS), Registry(KINDS, 0))
        self.assert_equal_is(False, Registry(KINDS), Registry(BIT))
        self.assert_equal_is(False, with_items((WIDEN,)), Registry(KINDS))
        self.assert_equal_is(False, with_items((WIDEN, ADDI)), with_items((ADDI, WIDEN)))
        self.assert_equal_is(False, with_items((WIDEN,)), with_items((WIDEN[:5] + ((0, 2),),)))
        self.assert_equal_is(False, with_items((WIDEN,)), with_items((WIDEN[:4] + (False, WIDEN[5]),)))

    def test_after_changes_that_were_undone(self):
        first, second = with_items((WIDEN, ADDI)), with_items((WIDEN, ADDI))
        first.remove(0)
        self.assert_equal_is(False, first, second)
        first.undo()
        self.assert_equal_is(True, first, second)
        first.undo()
        first.undo()
        self.assert_equal_is(True, first, Registry(KINDS))

    def test_nothing_else(self):
        for registry in (Registry(KINDS), with_items((WIDEN,))):
            for value in WRONG_WHOLE + (registry.library(), registry.library()[1], KINDS, 0, 1, len(registry),
                                        Registry):
                self.assert_equal_is(False, registry, value)
            self.assertIs(registry == mock.ANY, False)


class ManyChangesTest(RegistryTest):

    def assert_as_the_items_tell(self, registry, items, source):
        """The registry answers as another one in which the same items were added."""
        kinds, _, limit = registry.library()
        self.assertIs(coherent(registry.library()), True)
        again = with_items(items, kinds, limit)
        self.assertEqual(again, registry)
        for value in (some_item(source, kinds, 15), some_item(source, kinds, 1), None):
            longer = (kinds, tuple(items) + (value,), limit)
            expected = is_library(longer) and plain_parts.coherent(longer)
            self.assertIs(registry.accepts(value), expected)
            self.assertIs(again.accepts(value), expected)
            if expected:
                self.assertIs(conservative(registry.library(), value), True)

    def change(self, registry, items, source):
        """Makes a change by chance; the items that there must be then, or None if the registry must stay as it is."""
        kinds = registry.library()[0]
        new = tuple([some_item(source, kinds, number) for number in range(source.randint(0, 4))])
        word = source.choice(('add', 'offer', 'remove'))
        if word == 'offer':
            answers = registry.offer(new + tuple(items[:1]) + (7,))
            self.assertEqual(answers[-1], False)
            return items + [item for item, answer in zip(new, answers) if answer]
        if word == 'add' and new:
            longer = (kinds, tuple(items) + new[:1], registry.library()[2])
            if is_library(longer) and plain_parts.coherent(longer):
                self.assertIsNone(registry.add(new[0]))
                return items + [new[0]]
            self.assertRaises(Incoherent if is_library(longer) else BadItem, registry.add, new[0])
            return None
        place = source.randint(-1, len(items))
        if 0 <= place < len(items):
            self.assertEqual(registry.remove(place), items[place])
            return items[:place] + items[place + 1:]
        self.assertRaises(NoPlace, registry.remove, place)
        return None

    def test_any_sequence_of_changes(self):
        source = random.Random(104)
        longest = 0
        for library in some_busy_libraries(60, 105):
            registry = Registry(library[0], library[2])
            history = [[]]
            other, other_history = registry.copy(), [[]]
            for _ in range(25):
                if source.random() < 0.25:
                    if len(history) == 1:
                        self.assertRaises(NothingToUndo, registry.undo)
                    else:
                        self.assertIsNone(registry.undo())
                        history.pop()
                else:
                    items = self.change(registry, history[-1], source)
                    if items is not None:
                        history.append(items)
                self.assert_state(registry, history[-1], len(history) - 1)
                self.assert_state(other, other_history[-1], len(other_history) - 1)
                if source.random() < 0.15:
                    self.assert_as_the_items_tell(registry, history[-1], source)
                    other, other_history = registry, history
                    registry, history = registry.copy(), list(history)
                longest = max(longest, len(history[-1]))
        self.assertGreater(longest, 7)

    def test_every_order_of_a_few_changes(self):
        changes = (
            lambda registry: registry.add(WIDEN), lambda registry: registry.add(ADDI),
            lambda registry: registry.add(ADDB), lambda registry: registry.remove(0),
            lambda registry: registry.offer((ADDB, WIDEN)), lambda registry: registry.undo(),
        )
        for order in itertools.product(changes, repeat=4):
            registry = Registry(KINDS)
            history = [registry.library()]
            for change in order:
                before, many = registry.library(), registry.changes()
                try:
                    change(registry)
                except ReadingError:
                    self.assertEqual((registry.library(), registry.changes()), (before, many))
                    continue
                if change is changes[-1]:
                    history.pop()
                else:
                    history.append(registry.library())
                self.assertEqual((registry.library(), registry.changes()), (history[-1], len(history) - 1))
                self.assertIs(is_library(registry.library()) and coherent(registry.library()), True)

    def test_items_are_those_for_the_kinds(self):
        registry = Registry(KINDS)
        registry.offer((WIDEN, NARROW, ADDI))
        self.assertTrue(all([is_item(KINDS, item) for item in registry.library()[1]]))


if __name__ == '__main__':
    unittest.main()
