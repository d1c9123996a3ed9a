import itertools
import random
import unittest

from samereading.chains import chains, follow, is_chain, reached
from samereading.library import is_library
from tests.samples import AB, AC, BC, LITERAL, ONES, TRIANGLE, WIDE, WRONG, WRONG_WHOLE, Checked, spoiled


def step(name, source, target, is_implicit=True, table=(0,)):
    return ('conversion', name, source, target, is_implicit, table)


def library_of(letters, items, limit):
    return (tuple([(letter, 1) for letter in letters]), tuple(items), limit)


LINE = (step('ab', 'a', 'b'), step('bc', 'b', 'c'), step('cd', 'c', 'd'), step('de', 'd', 'e'), step('ef', 'e', 'f'))
RING = (step('ab', 'a', 'b'), step('bc', 'b', 'c'), step('ca', 'c', 'a'))


def expected_chains(library, source):
    """All chains from a kind by the words of their definition, in order, each with the kind it leads to."""
    items = library[1]
    places = [at for at, item in enumerate(items) if item[0] == 'conversion' and item[4]]
    found = []
    for length in range(library[2] + 1):
        for choice in itertools.product(places, repeat=length):
            kinds = [source] + [items[at][3] for at in choice]
            joined = all([items[at][2] == kind for at, kind in zip(choice, kinds)])
            if joined and len(set(kinds)) == len(kinds):
                found.append((length, choice, tuple([items[at][1] for at in choice]), kinds[-1]))
    return [(chain, kind) for _, _, chain, kind in sorted(found)]


def some_libraries():
    """Libraries with several conversions between the same kinds, in both directions, at mixed places."""
    source = random.Random(7)
    found = []
    for number in range(40):
        letters = 'abcdef'[:source.randint(1, 6)]
        items = []
        names = ['x' + letter for letter in 'abcdefgh']
        source.shuffle(names)
        for name in names[:source.randint(0, 8)] if len(letters) > 1 else []:
            start, end = source.sample(letters, 2)
            items.append(step(name, start, end, source.random() < 0.8))
            if source.random() < 0.3:
                items.append(('definition', name, (start,), end, (0,)))
        found.append(library_of(letters, items, number % 5))
    return found


class ChainsTest(Checked):

    def test_examples(self):
        self.assertEqual(self.call(chains, WIDE, 'bit', 'int'), (('widen',),))
        self.assertEqual(self.call(chains, WIDE, 'int', 'bit'), ())
        self.assertEqual(self.call(chains, TRIANGLE, 'a', 'c'), (('ac',), ('ab', 'bc')))

    def test_all_chains_of_many_libraries(self):
        for library in some_libraries():
            self.assertTrue(is_library(library))
            kinds = [name for name, _ in library[0]]
            for source in kinds:
                expected = expected_chains(library, source)
                for target in kinds:
                    found = self.call(chains, library, source, target)
                    self.assertEqual(found, tuple([chain for chain, kind in expected if kind == target]))

    def test_length_up_to_the_limit(self):
        names = tuple([item[1] for item in LINE])
        for limit in range(5):
            library = library_of('abcdef', LINE, limit)
            for length, target in enumerate('abcdef'):
                expected = (names[:length],) if length <= limit else ()
                self.assertEqual(self.call(chains, library, 'a', target), expected)

    def test_longer_chain_beside_a_short_one(self):
        for limit, expected in ((0, ()), (1, (('ac',),)), (2, (('ac',), ('ab', 'bc'))), (4, (('ac',), ('ab', 'bc')))):
            self.assertEqual(self.call(chains, TRIANGLE[:2] + (limit,), 'a', 'c'), expected)

    def test_to_the_same_kind_only_the_empty_one(self):
        for limit in range(5):
            for source in 'abc':
                self.assertEqual(self.call(chains, library_of('abc', RING, limit), source, source), ((),))
        self.assertEqual(self.call(chains, (LITERAL[0], (), 0), 'int', 'int'), ((),))

    def test_no_kind_twice(self):
        both = (step('ab', 'a', 'b'), step('ba', 'b', 'a'), step('bc', 'b', 'c'), step('cb', 'c', 'b'))
        library = library_of('abc', both, 4)
        self.assertEqual(self.call(chains, library, 'a', 'c'), (('ab', 'bc'),))
        self.assertEqual(self.call(chains, library, 'a', 'b'), (('ab',),))
        ring = library_of('abc', RING, 4)
        self.assertEqual(self.call(chains, ring, 'b', 'a'), (('bc', 'ca'),))

    def test_several_conversions_between_two_kinds(self):
        items = (step('y', 'b', 'c'), step('z', 'a', 'b'), step('x', 'b', 'c'), step('w', 'a', 'b'))
        library = library_of('abc', items, 2)
        self.assertEqual(self.call(chains, library, 'a', 'b'), (('z',), ('w',)))
        expected = (('z', 'y'), ('z', 'x'), ('w', 'y'), ('w', 'x'))
        self.assertEqual(self.call(chains, library, 'a', 'c'), expected)

    def test_order_is_by_length_then_by_places(self):
        items = (
            step('cd', 'c', 'd'), step('bd', 'b', 'd'), step('ac', 'a', 'c'), step('bc', 'b', 'c'),
            step('ab', 'a', 'b'), step('cb', 'c', 'b'), step('ad', 'a', 'd'),
        )
        expected = (('ad',), ('ac', 'cd'), ('ab', 'bd'), ('ac', 'cb', 'bd'), ('ab', 'bc', 'cd'))
        self.assertEqual(self.call(chains, library_of('abcd', items, 4), 'a', 'd'), expected)

    def test_places_count_the_other_items_but_only_implicit_conversions_are_taken(self):
        items = (step('no', 'a', 'b', False), ONES[0], step('q', 'a', 'b'), step('p', 'a', 'b'))
        library = ((('a', 1), ('b', 1), ('int', 4)), items, 4)
        self.assertEqual(self.call(chains, library, 'a', 'b'), (('q',), ('p',)))
        self.assertEqual(self.call(chains, library_of('ab', items[:1], 4), 'a', 'b'), ())

    def test_a_full_library(self):
        items = []
        for start, end in ('ab', 'bc', 'cd', 'de'):
            items.extend([step(start + end + letter, start, end) for letter in 'ponmlkj'])
        library = library_of('abcde', items, 4)
        found = self.call(chains, library, 'a', 'e')
        self.assertEqual(len(found), 7 ** 4)
        self.assertEqual(found[:2], (('abp', 'bcp', 'cdp', 'dep'), ('abp', 'bcp', 'cdp', 'deo')))
        self.assertEqual(found[-1], ('abj', 'bcj', 'cdj', 'dej'))


class ReachedTest(Checked):

    def test_examples(self):
        self.assertEqual(self.call(reached, WIDE, 'bit'), ('bit', 'int'))
        self.assertEqual(self.call(reached, TRIANGLE, 'b'), ('b', 'c'))

    def test_many_libraries(self):
        for library in some_libraries():
            for source, _ in library[0]:
                expected = tuple(sorted({kind for _, kind in expected_chains(library, source)}))
                self.assertEqual(self.call(reached, library, source), expected)

    def test_limits(self):
        for limit in range(5):
            library = library_of('abcdef', LINE, limit)
            self.assertEqual(self.call(reached, library, 'a'), tuple('abcdef')[:limit + 1])
            self.assertEqual(self.call(reached, library, 'f'), ('f',))

    def test_ascending_without_duplicates(self):
        items = (step('x', 'c', 'b'), step('y', 'c', 'b'), step('z', 'c', 'a'), step('w', 'b', 'a'))
        self.assertEqual(self.call(reached, library_of('abc', items, 2), 'c'), ('a', 'b', 'c'))
        self.assertEqual(self.call(reached, library_of('abc', RING, 4), 'b'), ('a', 'b', 'c'))


class FollowTest(Checked):

    def test_examples(self):
        self.assertEqual(self.call(follow, WIDE, ('widen',), 1), 1)

    def test_values_on_the_way(self):
        kinds = (('a', 3), ('b', 4), ('c', 2))
        items = (
            step('bc', 'b', 'c', True, (1, 0, 0, 1)), step('ab', 'a', 'b', True, (3, 0, 2)),
            step('ac', 'a', 'c', True, (0, 0, 1)), step('other', 'a', 'b', True, (2, 2, 2)),
        )
        library = (kinds, items, 2)
        for chain, values in ((('ab',), (3, 0, 2)), (('ab', 'bc'), (1, 1, 0)), (('ac',), (0, 0, 1)),
                              (('other', 'bc'), (0, 0, 0)), (('other',), (2, 2, 2)), ((), (0, 1, 2))):
            self.assertEqual([self.call(follow, library, chain, value) for value in range(3)], list(values))
        self.assertEqual([follow(library, ('bc',), value) for value in range(4)], [1, 0, 0, 1])

    def test_empty_chain_of_a_library_without_items(self):
        self.assertEqual([self.call(follow, (WIDE[0], (), 0), (), value) for value in range(4)], [0, 1, 2, 3])

    def test_a_chain_of_four(self):
        kinds = tuple([(letter, 5) for letter in 'abcdef'])
        up = (1, 2, 3, 4, 0)
        items = tuple([step(item[1], item[2], item[3], True, up) for item in LINE])
        self.assertEqual(self.call(follow, (kinds, items, 4), ('ab', 'bc', 'cd', 'de'), 2), 1)
        self.assertEqual(self.call(follow, (kinds, items, 4), ('bc', 'cd', 'de', 'ef'), 0), 4)

    def test_operator_with_the_name_of_a_conversion(self):
        twin = ('definition', 'ab', ('a',), 'b', (0, 0))
        real = step('ab', 'a', 'b', True, (1, 0))
        for items in ((twin, real), (real, twin)):
            library = ((('a', 2), ('b', 2)), items, 1)
            self.assertEqual([self.call(follow, library, ('ab',), value) for value in range(2)], [1, 0])


class IsChainTest(Checked):

    def test_examples(self):
        self.assert_true(is_chain, TRIANGLE, 'a', ('ab', 'bc'))
        self.assert_false(is_chain, TRIANGLE, 'a', ('bc',))
        self.assert_true(is_chain, TRIANGLE, 'b', ())
        self.assert_false(is_chain, TRIANGLE, 'a', ['ab'])

    def test_every_tuple_of_names(self):
        for library in some_libraries():
            names = sorted({item[1] for item in library[1]})[:6] + ['nosuch']
            for source, _ in library[0]:
                expected = {chain for chain, _ in expected_chains(library, source)}
                for chain in expected:
                    self.assert_true(is_chain, library, source, chain)
                for length in range(min(library[2] + 2, 4)):
                    for value in itertools.product(names, repeat=length):
                        self.assertIs(is_chain(library, source, value), value in expected)

    def test_length_up_to_the_limit(self):
        names = tuple([item[1] for item in LINE])
        for limit in range(5):
            for length in range(6):
                found = self.call(is_chain, library_of('abcdef', LINE, limit), 'a', names[:length])
                self.assertIs(found, length <= limit)

    def test_beginning(self):
        self.assert_true(is_chain, TRIANGLE, 'a', ('ac',))
        self.assert_true(is_chain, TRIANGLE, 'b', ('bc',))
        self.assert_false(is_chain, TRIANGLE, 'c', ('bc',))
        self.assert_false(is_chain, TRIANGLE, 'c', ('ac',))
        for source in 'abc':
            self.assert_true(is_chain, TRIANGLE, source, ())

    def test_each_begins_where_the_one_before_ends(self):
        self.assert_false(is_chain, TRIANGLE, 'a', ('ac', 'bc'))
        self.assert_false(is_chain, TRIANGLE, 'a', ('bc', 'ab'))
        self.assert_false(is_chain, library_of('abcdef', LINE, 4), 'a', ('ab', 'cd'))

    def test_no_kind_twice(self):
        ring = library_of('abc', RING, 4)
        self.assert_true(is_chain, ring, 'a', ('ab', 'bc'))
        self.assert_false(is_chain, ring, 'a', ('ab', 'bc', 'ca'))
        self.assert_false(is_chain, ring, 'a', ('ab', 'bc', 'ca', 'ab'))
        both = library_of('abc', (AB, step('ba', 'b', 'a'), BC, step('cb', 'c', 'b'), AC), 4)
        self.assert_false(is_chain, both, 'a', ('ab', 'ba'))
        self.assert_false(is_chain, both, 'a', ('ab', 'bc', 'cb'))
        self.assert_true(is_chain, both, 'a', ('ac', 'cb'))

    def test_only_implicit_conversions(self):
        items = (step('no', 'a', 'b', False), ('definition', 'f', ('a',), 'b', (0,)), step('yes', 'a', 'b'))
        library = library_of('ab', items, 4)
        self.assert_true(is_chain, library, 'a', ('yes',))
        for name in ('no', 'f', 'nosuch', 'a', ''):
            self.assert_false(is_chain, library, 'a', (name,))

    def test_strings_and_dicts_are_no_tuples(self):
        library = library_of('xyz', (step('a', 'x', 'y'), step('b', 'y', 'z')), 4)
        self.assert_true(is_chain, library, 'x', ('a', 'b'))
        for value in ('ab', 'a', '', ['a', 'b'], [], {'a': 1, 'b': 2}, {}):
            self.assert_false(is_chain, library, 'x', value)

    def test_wrong_values(self):
        for value in WRONG_WHOLE + tuple(spoiled(('ab', 'bc'))):
            if value != ():
                self.assert_false(is_chain, TRIANGLE, 'a', value)
        for value in WRONG:
            self.assert_false(is_chain, library_of('abcdef', LINE, 4), 'a', ('ab', 'bc', 'cd', value))
        self.assert_false(is_chain, TRIANGLE, 'a', (('ab', 'bc'),))
        self.assert_false(is_chain, TRIANGLE, 'a', ('ab',) * 20000)


if __name__ == '__main__':
    unittest.main()
