import random

from samereading.errors import DifferentKinds
from samereading.relation import agree, agreement, coherent, is_closed, pair_clashes, pairs, shows_agreement
from tests import plain
from tests.samples import ADDI, KINDS, LITERAL, ONES, TRIANGLE, WIDE, WIDEN, WRONG_WHOLE, Checked, spoiled
from tests.small import some_versions

BIT = (('bit', 2),)
EMPTY = (KINDS, (), 0)

# Kinds that are not those of WIDE: another order, one more, one less, another count, another name.
OTHER_KINDS = (
    (('int', 4), ('bit', 2)), KINDS + (('word', 1),), KINDS[:1], KINDS[1:], (('bit', 2), ('int', 3)),
    (('bit', 3), ('int', 4)), (('bit', 2), ('intx', 4)), (('bat', 2), ('int', 4)),
)


def all_pairs(library):
    typed = plain.typed_values(library)
    return [(first, second) for first in typed for second in typed]


class RelationTest(Checked):

    def test_examples(self):
        self.assert_false(coherent, WIDE)
        self.assert_true(coherent, (KINDS, (WIDEN, ADDI), 1))
        self.assert_true(agree, WIDE, EMPTY)
        self.assertEqual(len(self.call(pairs, (KINDS, ONES, 0), (KINDS, ONES, 0))), 8)
        expected = ((('bit', 0), ('bit', 0)), (('bit', 1), ('bit', 1)))
        self.assertEqual(self.call(pairs, (BIT, (), 1), (BIT, (), 1)), expected)
        self.assert_true(pair_clashes, WIDE, WIDE, (('bit', 0), ('int', 1)))
        self.assert_false(pair_clashes, WIDE, WIDE, (('bit', 1), ('int', 1)))
        self.assert_true(agree, WIDE, (KINDS, (ADDI,), 0))
        self.assertRaises(DifferentKinds, agree, ((('bit', 1),), (), 1), (BIT, (), 1))
        self.assert_false(shows_agreement, (BIT, (), 1), (BIT, (), 1), ((('bit', 0), ('bit', 0)),))

    def test_the_pairs_of_a_literal_with_two_kinds(self):
        found = pairs((KINDS, ONES, 0), (KINDS, ONES, 0))
        self.assertIn((('bit', 1), ('int', 1)), found)
        self.assertIn((('int', 1), ('bit', 1)), found)

    def test_pairs_are_those_of_the_definition(self):
        agreeing = 0
        for one, other in some_versions(400, 31):
            expected = tuple(sorted(plain.least_closed(one, other)))
            self.assertEqual(self.call(pairs, one, other), expected, (one, other))
            peaceful = not any([plain.clashes(one, other, pair) for pair in expected])
            self.assertIs(self.call(agree, one, other), peaceful, (one, other))
            self.assertEqual(self.call(agreement, one, other), expected if peaceful else None)
            self.assert_true(is_closed, one, other, expected)
            self.assertIs(self.call(shows_agreement, one, other, expected), peaceful)
            if one == other:
                self.assertIs(self.call(coherent, one), peaceful)
            agreeing += peaceful
        self.assertTrue(100 < agreeing < 350)

    def test_pairs_with_more_items(self):
        for one, other in some_versions(150, 32, 11):
            expected = tuple(sorted(plain.least_closed(one, other)))
            self.assertEqual(pairs(one, other), expected, (one, other))

    def test_pairs_are_those_that_expressions_return(self):
        whole = 0
        for one, other in some_versions(120, 33):
            behaviours = plain.Behaviours(one, other)
            self.assertLessEqual(behaviours.pairs(), set(pairs(one, other)))
            if behaviours.is_whole:
                self.assertEqual(behaviours.pairs(), set(pairs(one, other)))
                whole += 1
        self.assertGreater(whole, 100)

    def test_pair_clashes(self):
        for one, other in some_versions(150, 34):
            for pair in all_pairs(one):
                self.assertIs(pair_clashes(one, other, pair), plain.clashes(one, other, pair))

    def test_pair_clashes_by_chains_of_the_limit_only(self):
        items = (
            ('conversion', 'ab', 'a', 'b', True, (0, 1)), ('conversion', 'bc', 'b', 'c', True, (1, 1)),
        )
        kinds = (('a', 2), ('b', 2), ('c', 2))
        pair = (('a', 0), ('c', 0))
        for limit, expected in ((0, False), (1, False), (2, True), (4, True)):
            self.assertIs(self.call(pair_clashes, (kinds, items, limit), (kinds, (), 0), pair), expected)
            self.assertIs(self.call(pair_clashes, (kinds, (), 0), (kinds, items, limit), pair[::-1]), expected)
        explicit = tuple([item[:4] + (False, item[5]) for item in items])
        self.assert_false(pair_clashes, (kinds, explicit, 4), (kinds, explicit, 4), pair)

    def test_one_and_other_are_not_exchanged(self):
        neg = ('definition', 'neg', ('bit',), 'int', (2, 3))
        same = ('definition', 'neg', ('bit',), 'bit', (0, 1))
        found = pairs((KINDS, (neg,), 0), (KINDS, (same,), 0))
        self.assertIn((('int', 2), ('bit', 0)), found)
        self.assertNotIn((('bit', 0), ('int', 2)), found)

    def test_libraries_without_items(self):
        for limit in (0, 4):
            empty = (KINDS, (), limit)
            self.assertEqual(len(pairs(empty, WIDE)), 6)
            self.assert_true(agree, empty, WIDE)
            self.assert_true(agree, WIDE, empty)
            self.assert_true(coherent, empty)

    def test_explicit_conversions_meet_none_and_one_another(self):
        kinds = (('a', 2), ('b', 2))
        there = ('conversion', 'there', 'a', 'b', False, (1, 0))
        implicit = ('conversion', 'there', 'a', 'b', True, (0, 1))
        back = ('conversion', 'back', 'b', 'a', False, (0, 1))
        self.assert_true(coherent, (kinds, (there, back), 0))
        self.assert_false(coherent, (kinds, (there, ('conversion', 'more', 'a', 'b', True, (0, 1))), 1))
        self.assert_true(coherent, (kinds, (there, ('conversion', 'more', 'a', 'b', True, (0, 1))), 0))
        self.assert_false(coherent, (kinds, (there, ('conversion', 'more', 'a', 'b', False, (1, 1))), 0))
        self.assert_false(agree, (kinds, (there,), 1), (kinds, (implicit,), 1))
        self.assert_true(agree, (kinds, (there,), 1), (kinds, (implicit[:5] + ((1, 0),),), 1))


def with_changed_pairs(value, source, others):
    """A relation with a pair less, one more, one twice, two exchanged, and others in place of tuples."""
    found = [(), list(value), value + (None,), value + value[-1:], value[::-1], (value,), value[:-1], value[1:]]
    for _ in range(6):
        at = source.randrange(len(value))
        found.extend([value[:at] + value[at + 1:], value[:at + 1] + value[at:], value[:at] + (0,) + value[at + 1:]])
        extra = source.choice(others)
        found.extend([value + (extra,), tuple(sorted(value + (extra,))), tuple(sorted({extra, *value}))])
        other = source.randrange(len(value))
        exchanged = list(value)
        exchanged[at], exchanged[other] = exchanged[other], exchanged[at]
        found.append(tuple(exchanged))
    return found


class AnyValueTest(Checked):

    def assert_told(self, one, other, value):
        """Compares with the definition, by a plain check of the form and of the closure."""
        known = {repr(pair): pair for pair in all_pairs(one)}
        is_form = type(value) is tuple and all([repr(pair) in known for pair in value])
        is_form = is_form and list(value) == sorted(set(value))
        closed = is_form and plain.is_closed(one, other, set(value))
        self.assertIs(self.call(is_closed, one, other, value), closed, value)
        peaceful = closed and not any([plain.clashes(one, other, pair) for pair in value])
        self.assertIs(self.call(shows_agreement, one, other, value), peaceful, value)
        return closed

    def test_changed_relations(self):
        source = random.Random(35)
        closed = 0
        for one, other in some_versions(60, 36):
            for value in with_changed_pairs(pairs(one, other), source, all_pairs(one)):
                closed += self.assert_told(one, other, value)
        self.assertGreater(closed, 60)

    def test_larger_closed_sets(self):
        source = random.Random(37)
        larger = 0
        for one, other in some_versions(80, 38):
            least = pairs(one, other)
            everything = tuple(sorted(all_pairs(one)))
            self.assertTrue(self.assert_told(one, other, everything))
            extra = source.sample(all_pairs(one), min(2, len(everything)))
            value = tuple(sorted(plain.least_closed(one, other, least + tuple(extra))))
            self.assertTrue(self.assert_told(one, other, value))
            larger += least != value != everything
        self.assertGreater(larger, 15)

    def test_a_set_without_a_pair_of_equal_values(self):
        for one, other in some_versions(30, 39):
            least = pairs(one, other)
            for at, pair in enumerate(least):
                if pair[0] == pair[1]:
                    self.assert_false(is_closed, one, other, least[:at] + least[at + 1:])
                    self.assert_false(shows_agreement, one, other, least[:at] + least[at + 1:])

    def test_larger_agreement_that_is_not_least(self):
        one = (KINDS, (), 0)
        value = tuple(sorted(pairs(one, one) + ((('bit', 0), ('int', 3)),)))
        self.assert_true(is_closed, one, one, value)
        self.assert_true(shows_agreement, one, one, value)
        clashing = tuple(sorted(pairs(one, one) + ((('bit', 0), ('bit', 1)),)))
        self.assert_true(is_closed, one, one, clashing)
        self.assert_false(shows_agreement, one, one, clashing)

    def test_wrong_values(self):
        one = (KINDS, ONES, 0)
        least = pairs(one, one)
        for value in WRONG_WHOLE + tuple(spoiled(least)) + (WIDE, LITERAL, KINDS, least[0]):
            self.assertFalse(self.assert_told(one, one, value))

    def test_wrong_values_for_a_library_of_one_value(self):
        one = ((('bit', 1),), (), 0)
        self.assertTrue(self.assert_told(one, one, ((('bit', 0), ('bit', 0)),)))
        for value in spoiled(((('bit', 0), ('bit', 0)),)):
            self.assertFalse(self.assert_told(one, one, value))
        self.assertFalse(self.assert_told(one, one, ((('bit', False), ('bit', 0)),)))

    def test_deep_and_large_values(self):
        one = (KINDS, ONES, 0)
        deep = ()
        for _ in range(3000):
            deep = (deep, deep)
        for value in (deep, (deep,), ((deep, deep),), ((('bit', deep), ('bit', 0)),), (((deep, 0), ('bit', 0)),)):
            self.assertIs(is_closed(one, one, value), False)
            self.assertIs(shows_agreement(one, one, value), False)
        self.assertIs(is_closed(one, one, pairs(one, one) * 20000), False)


class DifferentKindsTest(Checked):

    def test_all_functions(self):
        for kinds in OTHER_KINDS:
            strange = (kinds, (), 1)
            for both in ((WIDE, strange), (strange, WIDE)):
                for function in (pairs, agree, agreement):
                    self.assertRaises(DifferentKinds, function, *both)
                for function in (is_closed, shows_agreement, pair_clashes):
                    for value in (None, 0, (), pairs(WIDE, WIDE), (('bit', 0), ('int', 1)), [], {}, 'bit'):
                        self.assertRaises(DifferentKinds, function, *both, value)

    def test_same_kinds_that_are_not_identical(self):
        again = (tuple([tuple([''.join(list(name)), count]) for name, count in KINDS]), (), 1)
        self.assertIs(agree(WIDE, again), True)
        self.assertRaises(DifferentKinds, agree, WIDE, TRIANGLE)
