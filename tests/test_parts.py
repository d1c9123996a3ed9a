import itertools
import random
import unittest

from samereading.errors import BadItem, TooMany
from samereading.library import extended, is_library, part, renamed
from samereading.parts import conservative, core, cores, is_core, kept, repairs
from samereading.relation import agree, coherent
from tests.plain_parts import Parts, all_sets
from tests.samples import (
    ADDB, ADDI, BIGS, KINDS, LITERAL, ONES, WIDE, WIDEN, WRONG_WHOLE, Checked, reshaped, spoiled,
)
from tests.small import some_busy_libraries, some_item, some_libraries
from tests.test_library import many_definitions

BOOK_KINDS = (('bit', 2), ('int', 3))
BOOK = (BOOK_KINDS, (
    ('conversion', 'up', 'bit', 'int', True, (0, 1)), ('definition', 'one', (), 'int', (2,)),
    ('definition', 'one', (), 'bit', (1,)), ('definition', 'two', (), 'int', (2,)),
), 1)
EMPTY = (KINDS, (), 1)


def clashing_pairs(many):
    """A library of so many items in which each conversion clashes with each other one."""
    letters = 'abcdefghijkl'
    return ((('a', 1), ('b', 8)), tuple([
        ('conversion', letters[at], 'a', 'b', True, (at % 8,)) for at in range(many)
    ]), 1)


class KeptTest(Checked):

    def test_examples(self):
        self.assertEqual(self.call(kept, WIDE, (2, 1, 0)), (1, 2))
        self.assertEqual(self.call(kept, BOOK, (3, 2, 1, 0)), (1, 2, 3))
        self.assertEqual(self.call(kept, BOOK, (0,)), (0,))

    def test_every_order_of_every_set_of_places(self):
        for library in (WIDE, BOOK, clashing_pairs(4)):
            plainly = Parts(library)
            for places in all_sets(plainly.places):
                for order in itertools.permutations(places):
                    self.assertEqual(self.call(kept, library, order), plainly.kept(order), (library, order))

    def test_the_empty_order(self):
        for library in (WIDE, LITERAL, BOOK, EMPTY):
            self.assertEqual(self.call(kept, library, ()), ())

    def test_single_places(self):
        for library in (WIDE, LITERAL, BOOK):
            for place in range(len(library[1])):
                self.assertEqual(self.call(kept, library, (place,)), (place,))

    def test_a_coherent_library_keeps_everything(self):
        items = many_definitions(30)
        order = tuple(random.Random(1).sample(range(30), 30))
        self.assertEqual(self.call(kept, (KINDS, items, 4), order), tuple(range(30)))
        self.assertEqual(self.call(kept, (KINDS, items, 4), order[:3]), tuple(sorted(order[:3])))

    def test_the_first_ones_win(self):
        for order in itertools.permutations(range(3)):
            self.assertEqual(self.call(kept, clashing_pairs(3), order), order[:1])

    def test_many_small_libraries(self):
        source = random.Random(81)
        some_left_out = 0
        for library in some_busy_libraries(80, 82):
            plainly = Parts(library)
            for _ in range(4):
                order = tuple(source.sample(plainly.places, source.randint(0, len(plainly.places))))
                found = self.call(kept, library, order)
                self.assertEqual(found, plainly.kept(order), (library, order))
                some_left_out += len(found) < len(order)
        self.assertGreater(some_left_out, 40)

    def test_what_is_kept_is_coherent_and_cannot_grow(self):
        source = random.Random(83)
        for library in some_busy_libraries(120, 84):
            order = tuple(source.sample(range(len(library[1])), len(library[1])))
            found = kept(library, order)
            self.assertIs(coherent(part(library, found)), True)
            for place in order:
                if place not in found:
                    self.assertIs(coherent(part(library, tuple(sorted(found + (place,))))), False)


class CoreTest(Checked):

    def test_examples(self):
        self.assertEqual(self.call(core, WIDE), (0, 1, 2))
        self.assertEqual(self.call(core, BOOK), (0, 1, 2))
        self.assert_true(is_core, BOOK, (0, 1, 2))
        self.assert_false(is_core, BOOK, (0, 1, 2, 3))

    def test_coherent_libraries(self):
        for library in (EMPTY, part(WIDE, (0, 1)), (KINDS, many_definitions(30), 4)):
            self.assertIsNone(self.call(core, library))
            self.assert_false(is_core, library, ())
            self.assert_false(is_core, library, tuple(range(len(library[1]))))

    def test_the_last_places_are_removed_first(self):
        self.assertEqual(self.call(core, clashing_pairs(5)), (0, 1))
        kinds, items, limit = BOOK
        self.assertEqual(self.call(core, (kinds, items[3:] + items[:3], limit)), (1, 2, 3))
        # Two conversions that clash alone: the later one is left only if the core of the others is behind them.
        more = ('conversion', 'upper', 'bit', 'int', True, (1, 0))
        self.assertEqual(self.call(core, (kinds, items + (more,), limit)), (0, 1, 2))
        self.assertEqual(self.call(core, (kinds, (more,) + items, limit)), (0, 1))

    def test_no_item_and_single_items(self):
        for library in (WIDE, BOOK, clashing_pairs(4)):
            self.assert_false(is_core, library, ())
            for place in range(len(library[1])):
                self.assert_false(is_core, library, (place,))
        # A definition that is used at two places of an expression clashes with nothing but itself.
        alone = (KINDS, (WIDEN, ('definition', 'f', ('int',), 'bit', (0, 1, 1, 0))), 1)
        for places in ((), (0,), (1,), (0, 1)):
            self.assertIs(self.call(is_core, alone, places), Parts(alone).is_core(places))

    def test_every_set_of_places(self):
        for library in (WIDE, BOOK, LITERAL, clashing_pairs(5), EMPTY):
            plainly = Parts(library)
            self.assertEqual(self.call(core, library), plainly.core())
            for places in plainly.coherent:
                self.assertIs(self.call(is_core, library, places), plainly.is_core(places), (library, places))

    def test_many_small_libraries(self):
        found = 0
        for library in some_busy_libraries(100, 85) + some_libraries(40, 86):
            plainly = Parts(library)
            expected = plainly.core()
            self.assertEqual(self.call(core, library), expected, library)
            if expected is not None:
                self.assert_true(is_core, library, expected)
                found += 1
            for places in list(plainly.coherent)[::7]:
                self.assertIs(is_core(library, places), plainly.is_core(places), (library, places))
        self.assertGreater(found, 30)

    def test_thirty_items(self):
        kinds, items, limit = (KINDS, many_definitions(27), 1)
        library = (kinds, items[:9] + WIDE[1][:1] + items[9:20] + WIDE[1][1:] + items[20:], limit)
        self.assertEqual(len(library[1]), 30)
        self.assertIs(is_library(library), True)
        self.assertEqual(self.call(core, library), (9, 21, 22))
        self.assert_true(is_core, library, (9, 21, 22))
        self.assert_false(is_core, library, (9, 10, 21, 22))
        self.assertEqual(kept(library, tuple(range(29, -1, -1))), tuple([at for at in range(30) if at != 9]))


class CoresTest(Checked):

    def test_examples(self):
        self.assertEqual(self.call(cores, WIDE), ((0, 1, 2),))
        self.assertEqual(self.call(repairs, WIDE), ((0,), (1,), (2,)))
        self.assertEqual(self.call(repairs, ((('bit', 2),), (), 1)), ((),))
        self.assertEqual(self.call(cores, ((('bit', 2),), (), 1)), ())

    def test_coherent_libraries(self):
        for library in (EMPTY, part(WIDE, (1, 2)), (KINDS, many_definitions(10), 4)):
            self.assertEqual(self.call(cores, library), ())
            self.assertEqual(self.call(repairs, library), ((),))

    def test_every_two_items_clash(self):
        for many in (2, 3, 7):
            library = clashing_pairs(many)
            self.assertEqual(self.call(cores, library), tuple(itertools.combinations(range(many), 2)))
            expected = tuple(sorted(itertools.combinations(range(many), many - 1)))
            self.assertEqual(self.call(repairs, library), expected)

    def test_cores_that_share_nothing(self):
        kinds = (('a', 1), ('b', 2), ('c', 1), ('d', 2))
        items = (
            ('conversion', 'ab', 'a', 'b', True, (0,)), ('conversion', 'cd', 'c', 'd', True, (0,)),
            ('conversion', 'abb', 'a', 'b', True, (1,)), ('conversion', 'cdd', 'c', 'd', True, (1,)),
        )
        self.assertEqual(self.call(cores, (kinds, items, 1)), ((0, 2), (1, 3)))
        self.assertEqual(self.call(repairs, (kinds, items, 1)), ((0, 1), (0, 3), (1, 2), (2, 3)))
        self.assertEqual(self.call(cores, (kinds, items, 0)), ())

    def test_many_small_libraries(self):
        found = {}
        for library in some_busy_libraries(120, 87) + some_libraries(40, 88):
            plainly = Parts(library)
            expected = plainly.cores()
            self.assertEqual(self.call(cores, library), expected, library)
            self.assertEqual(self.call(repairs, library), plainly.repairs(), library)
            self.assertEqual(repairs(library), plainly.meeting_sets(), library)
            self.assertEqual(core(library) in expected, bool(expected))
            found[len(expected)] = found.get(len(expected), 0) + 1
        self.assertTrue(found[0] > 30 and found[1] > 10 and sum(found.values()) - found[0] - found[1] > 12, found)

    def test_ten_items(self):
        several = 0
        for library in some_busy_libraries(40, 89, 14):
            library = (library[0], library[1][:10], library[2])
            if len(library[1]) == 10 and several < 4:
                plainly = Parts(library)
                self.assertEqual(self.call(cores, library), plainly.cores())
                self.assertEqual(self.call(repairs, library), plainly.repairs())
                several += len(plainly.cores()) > 1
        self.assertEqual(several, 4)

    def test_one_core_of_six_items(self):
        # A clash that needs each of the conversions, one behind the other; three further items take no part in it.
        kinds = (('a', 2), ('b', 2), ('c', 2), ('d', 2), ('e', 2))
        steps = tuple([
            ('conversion', start + end, start, end, True, (0, 1)) for start, end in zip('abcd', 'bcde')
        ])
        f = ('definition', 'f', ('e',), 'e', (0, 1))
        items = steps + (
            f, ('definition', 'g', (), 'a', (1,)), ('definition', 'h', ('e', 'e'), 'e', (0, 1, 1, 0)),
            ('definition', 'f', ('a',), 'a', (1, 0)),
        )
        library = (kinds, items, 4)
        plainly = Parts(library)
        self.assertEqual(self.call(cores, library), plainly.cores())
        self.assertEqual(plainly.cores(), ((0, 1, 2, 3, 4, 7),))
        self.assertEqual(self.call(repairs, library), ((0,), (1,), (2,), (3,), (4,), (7,)))
        self.assertEqual(self.call(cores, library[:2] + (3,)), Parts(library[:2] + (3,)).cores())

    def test_at_most_ten_items(self):
        for items in (many_definitions(30), clashing_pairs(12)[1]):
            kinds = KINDS if items[0][0] == 'definition' else clashing_pairs(12)[0]
            for many in (11, 12, len(items)):
                self.assert_error(TooMany, {'count': many}, cores, (kinds, items[:many], 1))
                self.assert_error(TooMany, {'count': many}, repairs, (kinds, items[:many], 1))
            library = (kinds, items[:10], 1)
            plainly = Parts(library)
            self.assertEqual(self.call(cores, library), plainly.cores())
            self.assertEqual(self.call(repairs, library), plainly.repairs())

    def test_what_they_return_is_made_of_tuples(self):
        for value in (cores(WIDE), repairs(WIDE), cores(WIDE)[0], repairs(WIDE)[0], kept(WIDE, (2, 0)), core(WIDE)):
            self.assertIs(type(value), tuple)


class PartsTogetherTest(Checked):
    """Section 4 (e) and the like: parts, other names and other orders of one library."""

    def test_parts_of_a_part(self):
        source = random.Random(91)
        for library in some_busy_libraries(120, 92):
            places = tuple(sorted(source.sample(range(len(library[1])), source.randint(0, len(library[1])))))
            smaller = part(library, places)
            inside = [found for found in cores(library) if set(found) <= set(places)]
            self.assertEqual(cores(smaller), tuple([tuple([places.index(at) for at in found]) for found in inside]))
            order = tuple(source.sample(range(len(places)), len(places)))
            outer = kept(library, tuple([places[at] for at in order]))
            self.assertEqual(tuple([places[at] for at in kept(smaller, order)]), outer)
            for missing in repairs(library):
                left = [at for at, place in enumerate(places) if place not in missing]
                self.assertIs(coherent(part(smaller, tuple(left))), True)

    def test_other_names_of_kinds(self):
        for library in some_busy_libraries(80, 93):
            names = dict(zip('abc', ('z', 'c', 'mm')))
            other = renamed(library, {name: names[name] for name, _ in library[0]})
            order = tuple(range(len(library[1])))[::-1]
            self.assertEqual(kept(other, order), kept(library, order))
            self.assertEqual(core(other), core(library))
            self.assertEqual(cores(other), cores(library))
            self.assertEqual(repairs(other), repairs(library))

    def test_another_order_of_items(self):
        source = random.Random(94)
        for library in some_busy_libraries(80, 95):
            kinds, items, limit = library
            places = source.sample(range(len(items)), len(items))
            other = (kinds, tuple([items[place] for place in places]), limit)

            def back(found):
                return tuple(sorted([places[at] for at in found]))

            order = tuple(source.sample(range(len(items)), len(items)))
            self.assertEqual(back(kept(other, order)), kept(library, tuple([places[at] for at in order])))
            self.assertEqual(tuple(sorted([back(found) for found in cores(other)])), cores(library))
            self.assertEqual(tuple(sorted([back(found) for found in repairs(other)])), repairs(library))

    def test_each_repair_meets_each_core(self):
        for library in some_busy_libraries(100, 96):
            for missing in repairs(library):
                self.assertTrue(all([set(missing) & set(found) for found in cores(library)]))
                for place in missing:
                    fewer = set(missing) - {place}
                    self.assertFalse(all([fewer & set(found) for found in cores(library)]))


class ConservativeTest(Checked):

    def test_examples(self):
        self.assert_false(conservative, part(WIDE, (0, 1)), ADDB)
        self.assert_true(conservative, part(WIDE, (1, 2)), ONES[0])
        bad = ('definition', 'one', (), 'bit', (5,))
        self.assert_error(BadItem, {'item': bad}, conservative, ((('bit', 2),), (), 1), bad)

    def test_that_the_library_agrees_with_the_longer_one(self):
        found = {True: 0, False: 0}
        source = random.Random(97)
        for library in some_busy_libraries(250, 98):
            library = part(library, kept(library, range(len(library[1]))))
            item = some_item(source, library[0], 15)
            if is_library(library[:1] + (library[1] + (item,),) + library[2:]):
                longer = extended(library, item)
                answer = self.call(conservative, library, item)
                self.assertIs(answer, agree(library, longer))
                if coherent(longer):
                    self.assertIs(answer, True)
                found[answer] += 1
        self.assertTrue(found[True] > 60 and found[False] > 25, found)

    def test_only_values_that_an_expression_had_before_count(self):
        item = ('definition', 'two', (), 'int', (1,))
        self.assert_true(conservative, (KINDS, (WIDEN,), 1), item)
        self.assert_true(conservative, (KINDS, (WIDEN, ('definition', 'two', (), 'bit', (1,))), 1), item)
        self.assert_true(conservative, (KINDS, (WIDEN, ('definition', 'too', (), 'bit', (0,))), 1), item)
        self.assert_false(conservative, (KINDS, (WIDEN, ('definition', 'two', (), 'bit', (0,))), 1), item)
        self.assert_true(conservative, (KINDS, (WIDEN, ('definition', 'two', (), 'bit', (0,))), 0), item)

    def test_a_conservative_item_that_makes_the_library_incoherent(self):
        # A negated bit is an integer in two ways then, but it was no integer before.
        negs = (('definition', 'neg', ('bit',), 'bit', (1, 0)), ('definition', 'neg', ('int',), 'int', (0, 3, 2, 1)))
        self.assert_true(conservative, (KINDS, negs, 1), WIDEN)
        self.assertIs(coherent(extended((KINDS, negs, 1), WIDEN)), False)
        self.assert_true(conservative, part(WIDE, (1, 2)), WIDEN)

    def test_an_incoherent_library_agrees_with_no_longer_one(self):
        self.assert_false(conservative, WIDE, ONES[0])
        self.assert_false(conservative, clashing_pairs(2), ('definition', 'f', (), 'a', (0,)))

    def test_items_that_it_has_already(self):
        for item in WIDE[1]:
            self.assert_error(BadItem, {'item': item}, conservative, WIDE, item)
        same_name = ('conversion', 'widen', 'int', 'bit', False, (0, 0, 1, 1))
        same_signature = ADDI[:4] + ((0,) * 16,)
        for item in (same_name, same_signature):
            self.assert_error(BadItem, {'item': item}, conservative, WIDE, item)

    def test_number_of_items(self):
        items = many_definitions(31)
        self.assert_true(conservative, (KINDS, items[:29], 1), items[29])
        self.assert_error(BadItem, {'item': items[30]}, conservative, (KINDS, items[:30], 1), items[30])

    def test_any_value(self):
        library = (KINDS, (ADDI,), 1)
        for value in WRONG_WHOLE + tuple(spoiled(ADDB)) + tuple(spoiled(WIDEN)) + (WIDE, WIDE[1], ('input', 0)):
            self.assert_error(BadItem, {'item': value}, conservative, library, value)
        for value in reshaped(BIGS[0]) + reshaped(WIDEN):
            longer = (KINDS, (ADDI, value), 1)
            if is_library(longer):
                self.assertIs(self.call(conservative, library, value), agree(library, longer))
            else:
                self.assert_error(BadItem, {'item': value}, conservative, library, value)


if __name__ == '__main__':
    unittest.main()
