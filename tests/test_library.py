import unittest

from samereading.errors import BadItem, ReadingError
from samereading.library import extended, is_item, is_kinds, is_library, part, renamed
from tests.samples import (
    ADDB, ADDI, BIGS, KINDS, LITERAL, ONES, TRIANGLE, WIDE, WIDEN, WRONG_WHOLE, Checked, spoiled,
)

NARROW = ('conversion', 'narrow', 'int', 'bit', False, (0, 1, 0, 1))
GOOD_NAMES = ('a', 'z', 'bit', 'azazazaz', 'call', 'input')
BAD_NAMES = (
    '', 'azazazaza', 'Bit', 'biT', 'BIT', 'bit2', '2bit', '1', 'b_t', 'b t', ' bit', 'bit ', 'bit\n', '\n', 'b-t',
    'b\u00eft', '\u00e9', '\u00df', '\u0430', '`', '{', 'a' * 20000,
)
WIDE_KINDS = (('a', 1), ('b', 8), ('c', 4), ('d', 6), ('e', 3), ('f', 5))


def many_definitions(many):
    """So many definitions with different operators."""
    letters = 'abcdefghijklmnopqrstuvwxyz'
    return tuple([('definition', 'f' + letters[at % 26] + letters[at // 26], (), 'bit', (0,)) for at in range(many)])


class IsKindsTest(Checked):

    def test_examples(self):
        self.assert_true(is_kinds, KINDS)
        self.assert_false(is_kinds, (('b', 1), ('a', 1)))

    def test_names(self):
        for name in GOOD_NAMES:
            self.assert_true(is_kinds, ((name, 2),))
        for name in BAD_NAMES:
            self.assert_false(is_kinds, ((name, 2),))

    def test_counts(self):
        for count in range(1, 9):
            self.assert_true(is_kinds, (('bit', count),))
        for count in (0, 9, -1, 10 ** 30, True, False, None, '1', (1,), [1], {}):
            self.assert_false(is_kinds, (('bit', count),))

    def test_number_of_kinds(self):
        pairs = tuple([(letter, 1) for letter in 'abcdefg'])
        self.assert_false(is_kinds, ())
        for many in range(1, 7):
            self.assert_true(is_kinds, pairs[:many])
        self.assert_false(is_kinds, pairs)

    def test_order(self):
        self.assert_true(is_kinds, (('a', 8), ('aa', 1), ('b', 2)))
        self.assert_false(is_kinds, (('a', 1), ('c', 1), ('b', 1)))
        self.assert_false(is_kinds, (('aa', 1), ('a', 2)))

    def test_no_name_twice(self):
        self.assert_false(is_kinds, (('a', 1), ('a', 1)))
        self.assert_false(is_kinds, (('a', 1), ('a', 2)))
        self.assert_false(is_kinds, (('a', 1), ('b', 1), ('b', 2)))

    def test_form_of_pairs(self):
        for pair in ((), ('bit',), ('bit', 2, 2), ['bit', 2], 'ab', (2, 'bit'), {'bit': 2}):
            self.assert_false(is_kinds, (pair,))
            self.assert_false(is_kinds, (('a', 1), pair))
        self.assert_false(is_kinds, ('bit', 2))
        self.assert_false(is_kinds, {'bit': 2})

    def test_wrong_values(self):
        for value in WRONG_WHOLE + tuple(spoiled(KINDS)) + tuple(spoiled(WIDE_KINDS)):
            self.assert_false(is_kinds, value)

    def test_other_values_of_the_package(self):
        for value in (WIDE, WIDEN, ADDI, ONES, ('input', 0)):
            self.assert_false(is_kinds, value)


class IsConversionTest(Checked):

    def test_examples(self):
        self.assert_true(is_item, KINDS, WIDEN)
        self.assert_true(is_item, KINDS, NARROW)
        self.assert_false(is_item, KINDS, ('conversion', 'wrap', 'int', 'bit', True, (0, 1)))

    def test_implicit_is_a_boolean(self):
        for is_implicit in (True, False):
            self.assert_true(is_item, KINDS, ('conversion', 'widen', 'bit', 'int', is_implicit, (0, 1)))
        for is_implicit in (0, 1, None, 'True', '', (), (True,), [], {}):
            self.assert_false(is_item, KINDS, ('conversion', 'widen', 'bit', 'int', is_implicit, (0, 1)))

    def test_names(self):
        for name in GOOD_NAMES:
            self.assert_true(is_item, KINDS, ('conversion', name, 'bit', 'int', True, (0, 1)))
        for name in BAD_NAMES:
            self.assert_false(is_item, KINDS, ('conversion', name, 'bit', 'int', True, (0, 1)))

    def test_two_different_kinds(self):
        self.assert_false(is_item, KINDS, ('conversion', 'same', 'bit', 'bit', True, (0, 1)))
        self.assert_false(is_item, KINDS, ('conversion', 'same', 'int', 'int', False, (0, 1, 2, 3)))
        self.assert_false(is_item, KINDS, ('conversion', 'from', 'word', 'bit', True, (0, 1)))
        self.assert_false(is_item, KINDS, ('conversion', 'to', 'bit', 'word', True, (0, 1)))
        self.assert_false(is_item, (('bit', 2),), WIDEN)
        self.assert_false(is_item, (('bit', 3), ('int', 4)), WIDEN)

    def test_tables(self):
        for table in ((0, 0), (3, 3), (3, 0)):
            self.assert_true(is_item, KINDS, ('conversion', 'widen', 'bit', 'int', True, table))
        for table in ((), (0,), (0, 1, 0), (0, 4), (4, 0), (-1, 0), (0, True), (False, 1), (0, None), (0, '1'), [0, 1]):
            self.assert_false(is_item, KINDS, ('conversion', 'widen', 'bit', 'int', True, table))
        for table in ((0, 1, 0, 1), (1, 1, 1, 1)):
            self.assert_true(is_item, KINDS, ('conversion', 'narrow', 'int', 'bit', True, table))
        for table in ((0, 1, 0), (0, 1, 0, 1, 0), (0, 1, 2, 3), (0, 1, 0, 2)):
            self.assert_false(is_item, KINDS, ('conversion', 'narrow', 'int', 'bit', True, table))
        self.assert_true(is_item, WIDE_KINDS, ('conversion', 'one', 'b', 'a', True, (0,) * 8))
        self.assert_true(is_item, WIDE_KINDS, ('conversion', 'one', 'a', 'b', True, (7,)))

    def test_number_of_parts(self):
        self.assert_false(is_item, KINDS, WIDEN[:5])
        self.assert_false(is_item, KINDS, WIDEN + (0,))
        self.assert_false(is_item, KINDS, WIDEN[1:])
        self.assert_false(is_item, KINDS, ('definition',) + WIDEN[1:])
        self.assert_false(is_item, KINDS, ('implicit',) + WIDEN[1:])

    def test_wrong_values(self):
        for value in spoiled(WIDEN) + spoiled(NARROW):
            self.assert_false(is_item, KINDS, value)


class IsDefinitionTest(Checked):

    def test_examples(self):
        for item in (ADDI, ADDB) + ONES + BIGS:
            self.assert_true(is_item, KINDS, item)

    def test_operators(self):
        for name in GOOD_NAMES:
            self.assert_true(is_item, KINDS, ('definition', name, (), 'bit', (0,)))
        for name in BAD_NAMES:
            self.assert_false(is_item, KINDS, ('definition', name, (), 'bit', (0,)))

    def test_number_of_parameters(self):
        kinds = (('unit', 1),)
        for many in range(4):
            self.assert_true(is_item, kinds, ('definition', 'f', ('unit',) * many, 'unit', (0,)))
        for many in (4, 5, 20):
            self.assert_false(is_item, kinds, ('definition', 'f', ('unit',) * many, 'unit', (0,)))

    def test_parameters_and_result_are_kinds(self):
        self.assert_false(is_item, KINDS, ('definition', 'f', ('word',), 'bit', (0, 1)))
        self.assert_false(is_item, KINDS, ('definition', 'f', ('bit', 'word'), 'bit', (0, 1)))
        self.assert_false(is_item, KINDS, ('definition', 'f', (), 'word', (0,)))
        self.assert_false(is_item, KINDS, ('definition', 'f', 'bit', 'bit', (0, 1)))
        self.assert_false(is_item, KINDS, ('definition', 'f', ['bit'], 'bit', (0, 1)))
        self.assert_false(is_item, (('a', 2),), ('definition', 'f', 'a', 'a', (0, 1)))
        self.assert_false(is_item, (('int', 4),), ADDB)

    def test_literals(self):
        self.assert_true(is_item, KINDS, ('definition', 'f', (), 'int', (3,)))
        for table in ((), (0, 0), (4,), (-1,), (True,), (None,), 3, [3]):
            self.assert_false(is_item, KINDS, ('definition', 'f', (), 'int', table))

    def test_tables(self):
        for table in ((0, 0), (3, 3)):
            self.assert_true(is_item, KINDS, ('definition', 'f', ('bit',), 'int', table))
        for table in ((), (0,), (0, 1, 2), (0, 4), (-1, 0), (0, True), (False, 0), [0, 1], '01', {0: 0, 1: 1}):
            self.assert_false(is_item, KINDS, ('definition', 'f', ('bit',), 'int', table))
        for many in range(12):
            value = ('definition', 'f', ('bit', 'int'), 'bit', (1,) * many)
            self.assertIs(is_item(KINDS, value), many == 8)

    def test_at_most_64_entries(self):
        for parameters in (('b', 'b'), ('c', 'c', 'c'), ('b', 'b', 'a'), ('a', 'b', 'b')):
            for many in (63, 64, 65):
                value = ('definition', 'f', parameters, 'b', (7,) * many)
                self.assertIs(is_item(WIDE_KINDS, value), many == 64)
        for parameters, many in ((('b', 'e', 'e'), 72), (('c', 'd', 'e'), 72), (('b', 'b', 'c'), 256),
                                 (('b', 'b', 'b'), 512), (('e', 'f', 'f'), 75), (('c', 'f', 'c'), 80)):
            for length in (many, 64, 65):
                self.assert_false(is_item, WIDE_KINDS, ('definition', 'f', parameters, 'a', (0,) * length))
        self.assert_true(is_item, WIDE_KINDS, ('definition', 'f', ('c', 'e', 'f'), 'a', (0,) * 60))

    def test_number_of_parts(self):
        self.assert_false(is_item, KINDS, ADDB[:4])
        self.assert_false(is_item, KINDS, ADDB + (0,))
        self.assert_false(is_item, KINDS, ADDB[1:])
        self.assert_false(is_item, KINDS, ('conversion',) + ADDB[1:])

    def test_wrong_values(self):
        for value in WRONG_WHOLE + tuple(spoiled(ADDB)) + tuple(spoiled(ONES[0])) + tuple(spoiled(BIGS[0])):
            self.assert_false(is_item, KINDS, value)

    def test_other_values_of_the_package(self):
        for value in (WIDE, KINDS, ONES, ('input', 0), ('call', 'add', ())):
            self.assert_false(is_item, KINDS, value)


class IsLibraryTest(Checked):

    def test_examples(self):
        for value in (WIDE, LITERAL, TRIANGLE, (KINDS, ONES, 0), (KINDS, (), 0)):
            self.assert_true(is_library, value)
        self.assert_false(is_library, (KINDS, (WIDEN, WIDEN), 1))

    def test_limits(self):
        for limit in range(5):
            self.assert_true(is_library, (KINDS, (WIDEN,), limit))
        for limit in (-1, 5, 10 ** 30, True, False, None, '1', (), (1,), [1], {}):
            self.assert_false(is_library, (KINDS, (WIDEN,), limit))

    def test_number_of_items(self):
        for many in (0, 1, 29, 30):
            self.assert_true(is_library, (KINDS, many_definitions(many), 1))
        for many in (31, 32, 60):
            self.assert_false(is_library, (KINDS, many_definitions(many), 1))

    def test_two_conversions_with_one_name(self):
        self.assert_false(is_library, (KINDS, (WIDEN, ('conversion', 'widen', 'bit', 'int', True, (1, 2))), 1))
        self.assert_false(is_library, (KINDS, (WIDEN, ('conversion', 'widen', 'bit', 'int', False, (0, 1))), 1))
        self.assert_false(is_library, (KINDS, (WIDEN, ADDI, ('conversion', 'widen') + NARROW[2:]), 1))
        self.assert_true(is_library, (KINDS, (WIDEN, ('conversion', 'again') + WIDEN[2:]), 1))
        self.assert_true(is_library, (KINDS, (WIDEN, ('definition', 'widen', ('bit',), 'int', (0, 1))), 1))

    def test_two_definitions_with_one_operator(self):
        self.assert_false(is_library, (KINDS, (ADDB, ADDB), 1))
        self.assert_false(is_library, (KINDS, (ADDB, WIDEN, ADDB[:4] + ((1, 1, 1, 1),)), 1))
        self.assert_false(is_library, (KINDS, (ONES[0], ONES[0][:4] + ((2,),)), 1))
        self.assert_true(is_library, (KINDS, (ADDB, ('definition', 'sum') + ADDB[2:]), 1))
        self.assert_true(is_library, (KINDS, ONES, 1))
        self.assert_true(is_library, (KINDS, (ADDB, ADDB[:3] + ('int', (0, 1, 2, 3))), 1))
        self.assert_true(is_library, (KINDS, (
            ('definition', 'f', ('bit', 'int'), 'bit', (0,) * 8), ('definition', 'f', ('int', 'bit'), 'bit', (0,) * 8),
            ('definition', 'f', ('int',), 'bit', (0,) * 4), ('definition', 'f', ('bit',), 'int', (0,) * 2),
            ('definition', 'f', (), 'bit', (0,)), ('definition', 'f', ('bit', 'bit'), 'bit', (0,) * 4),
            ('definition', 'f', ('bit', 'bit', 'bit'), 'bit', (0,) * 8),
        ), 1))

    def test_items_are_items_for_the_kinds(self):
        self.assert_false(is_library, ((('bit', 2),), (WIDEN,), 1))
        self.assert_false(is_library, (KINDS, TRIANGLE[1], 1))
        self.assert_false(is_library, (KINDS, WIDEN, 1))

    def test_kinds(self):
        for kinds in ((), (('int', 4), ('bit', 2)), (('bit', 2), ('bit', 2)), list(KINDS), dict(KINDS), 'bit'):
            self.assert_false(is_library, (kinds, (), 1))

    def test_number_of_parts(self):
        self.assert_false(is_library, WIDE[:2])
        self.assert_false(is_library, WIDE + (1,))
        self.assert_false(is_library, WIDE[1:])
        self.assert_false(is_library, (1, WIDE[1], KINDS))

    def test_wrong_values(self):
        small = (KINDS, (WIDEN, NARROW, ONES[0], ADDB), 1)
        for value in WRONG_WHOLE + tuple(spoiled(small)):
            self.assert_false(is_library, value)


class PartTest(Checked):

    def test_examples(self):
        self.assertEqual(self.call(part, WIDE, (2,)), (KINDS, (ADDB,), 1))

    def test_every_choice_of_places(self):
        items = LITERAL[1]
        for choice in range(2 ** len(items)):
            places = tuple([at for at in range(len(items)) if choice >> at & 1])
            found = self.call(part, LITERAL, places)
            self.assertEqual(found, (KINDS, tuple([items[at] for at in places]), 0))

    def test_ends(self):
        self.assertEqual(self.call(part, WIDE, ()), (KINDS, (), 1))
        self.assertEqual(self.call(part, WIDE, (0, 1, 2)), WIDE)
        self.assertEqual(self.call(part, (KINDS, (), 4), ()), (KINDS, (), 4))
        full = (KINDS, many_definitions(30), 3)
        self.assertEqual(self.call(part, full, (0, 29)), (KINDS, (full[1][0], full[1][29]), 3))

    def test_returns_tuples(self):
        self.assertIsInstance(part(WIDE, (0, 2)), tuple)
        self.assertIsInstance(part(WIDE, (0, 2))[1], tuple)


class ExtendedTest(Checked):

    def assert_bad(self, library, item):
        before = repr(item)
        for _ in range(2):
            with self.assertRaises(BadItem) as found:
                extended(library, item)
            self.assertIs(found.exception.item, item)
            self.assertIsInstance(found.exception, ReadingError)
        self.assertEqual(repr(item), before)

    def test_adds_as_the_last_one(self):
        library = (KINDS, (), 2)
        for item in (ADDB, WIDEN, ADDI, NARROW) + ONES + BIGS:
            longer = self.call(extended, library, item)
            self.assertEqual(longer, (KINDS, library[1] + (item,), 2))
            self.assertIs(is_library(longer), True)
            library = longer

    def test_example(self):
        self.assert_bad(WIDE, WIDEN)

    def test_what_is_no_item(self):
        for item in WRONG_WHOLE + tuple(spoiled(ONES[1])) + tuple(spoiled(NARROW)):
            self.assert_bad(WIDE, item)
        self.assert_bad(WIDE, ('conversion', 'wrap', 'int', 'bit', True, (0, 1)))
        self.assert_bad(WIDE, ('definition', 'one', (), 'word', (0,)))
        self.assert_bad(WIDE, ONES)
        self.assert_bad(WIDE, WIDE)

    def test_one_name_or_signature_twice(self):
        self.assert_bad(WIDE, ('conversion', 'widen') + NARROW[2:])
        self.assert_bad(WIDE, ADDB)
        self.assert_bad(WIDE, ADDB[:4] + ((0, 0, 0, 0),))
        same_name = ('definition', 'widen', ('bit',), 'int', (0, 1))
        self.assertEqual(extended(WIDE, same_name)[1][-1], same_name)
        other_result = ADDB[:3] + ('int', (0, 1, 1, 2))
        self.assertEqual(extended(WIDE, other_result)[1][-1], other_result)

    def test_number_of_items(self):
        items = many_definitions(30)
        self.assertEqual(self.call(extended, (KINDS, items[:29], 1), items[29]), (KINDS, items, 1))
        self.assert_bad((KINDS, items, 1), WIDEN)
        self.assert_bad((KINDS, items, 1), items[0])
        self.assert_bad((KINDS, items, 1), 7)


class RenamedTest(Checked):

    def test_example(self):
        library = ((('bit', 1),), (('definition', 'one', (), 'bit', (0,)),), 0)
        expected = ((('unit', 1),), (('definition', 'one', (), 'unit', (0,)),), 0)
        self.assertEqual(self.call(renamed, library, {'bit': 'unit'}), expected)

    def test_kinds_are_ascending_again_and_items_keep_their_places(self):
        library = (KINDS, (WIDEN, NARROW, ADDI, ONES[0], BIGS[0]), 3)
        expected = ((('a', 4), ('z', 2)), (
            ('conversion', 'widen', 'z', 'a', True, (0, 1)),
            ('conversion', 'narrow', 'a', 'z', False, (0, 1, 0, 1)),
            ('definition', 'add', ('a', 'a'), 'a', ADDI[4]),
            ('definition', 'one', (), 'a', (1,)),
            ('definition', 'big', ('a',), 'z', (0, 0, 1, 1)),
        ), 3)
        self.assertEqual(self.call(renamed, library, {'bit': 'z', 'int': 'a'}), expected)
        self.assertIs(is_library(expected), True)

    def test_names_exchanged(self):
        library = (KINDS, (WIDEN, ('definition', 'f', ('bit', 'int', 'bit'), 'int', tuple(range(4)) * 4)), 1)
        expected = ((('bit', 4), ('int', 2)), (
            ('conversion', 'widen', 'int', 'bit', True, (0, 1)),
            ('definition', 'f', ('int', 'bit', 'int'), 'bit', tuple(range(4)) * 4),
        ), 1)
        self.assertEqual(self.call(renamed, library, {'bit': 'int', 'int': 'bit'}), expected)
        self.assertEqual(renamed(expected, {'bit': 'int', 'int': 'bit'}), library)

    def test_names_around_a_ring(self):
        ring = {'a': 'b', 'b': 'c', 'c': 'a'}
        kinds = (('a', 1), ('b', 2), ('c', 3))
        library = (kinds, (('definition', 'f', ('a', 'b', 'c'), 'b', (0, 1, 0, 1, 0, 1)),), 0)
        once = ((('a', 3), ('b', 1), ('c', 2)), (('definition', 'f', ('b', 'c', 'a'), 'c', (0, 1, 0, 1, 0, 1)),), 0)
        self.assertEqual(self.call(renamed, library, ring), once)
        self.assertEqual(renamed(renamed(once, ring), ring), library)

    def test_only_kinds_are_renamed(self):
        items = (
            ('conversion', 'bit', 'bit', 'int', True, (0, 1)),
            ('conversion', 'int', 'int', 'bit', False, (0, 0, 1, 1)),
            ('definition', 'bit', ('int',), 'bit', (0, 1, 1, 0)),
            ('definition', 'int', (), 'int', (2,)),
        )
        expected = (
            ('conversion', 'bit', 'x', 'y', True, (0, 1)),
            ('conversion', 'int', 'y', 'x', False, (0, 0, 1, 1)),
            ('definition', 'bit', ('y',), 'x', (0, 1, 1, 0)),
            ('definition', 'int', (), 'y', (2,)),
        )
        found = self.call(renamed, (KINDS, items, 4), {'int': 'y', 'bit': 'x'})
        self.assertEqual(found, ((('x', 2), ('y', 4)), expected, 4))

    def test_same_names(self):
        for library in (WIDE, LITERAL, TRIANGLE):
            self.assertEqual(self.call(renamed, library, {name: name for name, _ in library[0]}), library)

    def test_returns_tuples(self):
        kinds, items, _ = renamed(WIDE, {'bit': 'b', 'int': 'a'})
        for value in (kinds, items, items[1][2]) + kinds + items:
            self.assertIsInstance(value, tuple)


if __name__ == '__main__':
    unittest.main()
