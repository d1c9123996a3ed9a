"""All functions come to an end on the largest libraries of section 3: six kinds of eight values, thirty items."""

import random
import unittest

from samereading.clashes import clash, clash_size, row_sizes, shows_clash
from samereading.library import is_library
from samereading.local import local_agree, local_clash
from samereading.parts import core, cores, is_core, kept, repairs
from samereading.registry import Registry
from samereading.relation import agree, agreement, coherent, is_closed, pairs, shows_agreement
from samereading.session import Session
from samereading.texts import read_library, show_library

LETTERS = 'abcdef'
KINDS = tuple([(letter, 8) for letter in LETTERS])
KINDS_OF_FOUR = tuple([(letter, 4) for letter in LETTERS])


def definitions(many, entry, seed=71):
    """So many definitions of one operator with two parameters; entry gives the entry for two values."""
    source = random.Random(seed)
    signatures = [(s, t, r) for s in LETTERS for t in LETTERS for r in LETTERS]
    source.shuffle(signatures)
    return tuple([
        ('definition', 'f', signature[:2], signature[2], tuple([entry(x, y) % 8 for x in range(8) for y in range(8)]))
        for signature in signatures[:many]
    ])


def conversions(is_implicit, entry):
    """Thirty conversions, one from each kind to each other one."""
    return tuple([
        ('conversion', 'x' + s + t, s, t, is_implicit, tuple([entry(value) % 8 for value in range(8)]))
        for s in LETTERS for t in LETTERS if s != t
    ])


def ternary(entry):
    source = random.Random(72)
    signatures = {tuple([source.choice(LETTERS) for _ in range(4)]): True for _ in range(30)}
    return tuple([
        ('definition', 'f', row[:3], row[3], tuple([
            entry(x, y, z) % 4 for x in range(4) for y in range(4) for z in range(4)
        ])) for row in signatures
    ])


class LargeTest(unittest.TestCase):

    def assert_all_functions_end(self, one, other):
        self.assertIs(is_library(one) and is_library(other), True)
        relation = pairs(one, other)
        self.assertIs(is_closed(one, other, relation), True)
        self.assertIs(is_closed(one, other, relation[:-1]), False)
        value = clash(one, other)
        size = clash_size(one, other)
        self.assertIs(agree(one, other), value is None)
        self.assertIs(shows_agreement(one, other, relation), value is None)
        self.assertEqual(agreement(one, other), relation if value is None else None)
        if one == other:
            self.assertIs(coherent(one), value is None)
        if value is None:
            self.assertIsNone(size)
            self.assertIs(local_agree(one, other), True)
        else:
            self.assertIs(shows_clash(one, other, value), True)
            self.assertEqual(row_sizes(value[0])[-1], size)
            local = local_clash(one, other)
            self.assertIs(local_agree(one, other), local is None)
            self.assertTrue(local is None or shows_clash(one, other, local))
        return len(relation), size

    def test_sums_agree(self):
        one = (KINDS, definitions(30, lambda x, y: x + y), 4)
        self.assertEqual(self.assert_all_functions_end(one, one), (6 * 6 * 8, None))

    def test_tables_without_order_clash(self):
        source = random.Random(73)
        one = (KINDS, definitions(30, lambda x, y: source.randrange(8)), 4)
        other = (KINDS, definitions(30, lambda x, y: source.randrange(8)), 4)
        self.assert_all_functions_end(one, one)
        found, size = self.assert_all_functions_end(one, other)
        self.assertEqual((found, size is None), (48 * 48, False))

    def test_half_of_all_pairs(self):
        # Sums but for an even number: half of all pairs follow, and no pair of an even and an odd value.
        source = random.Random(74)
        one = (KINDS, definitions(30, lambda x, y: x + y + 2 * source.randrange(4)), 4)
        self.assertEqual(self.assert_all_functions_end(one, one)[0], 24 * 48)

    def test_conversions_alone(self):
        source = random.Random(75)
        for is_implicit in (True, False):
            for entry in (lambda value: value, lambda value: source.randrange(8)):
                one = (KINDS, conversions(is_implicit, entry), 4)
                self.assert_all_functions_end(one, one)
                self.assert_all_functions_end(one, (KINDS, conversions(not is_implicit, entry), 4))

    def test_conversions_and_definitions(self):
        steps = conversions(True, lambda value: value)[::2]
        one = (KINDS, steps + definitions(15, lambda x, y: x + y), 4)
        self.assertEqual(self.assert_all_functions_end(one, one)[1], None)
        other = (KINDS, steps + definitions(15, lambda x, y: x + y + (x == y == 7)), 4)
        self.assertEqual(self.assert_all_functions_end(one, other)[1], 3)

    def test_three_parameters(self):
        one = (KINDS_OF_FOUR, ternary(lambda x, y, z: x + y + z), 4)
        self.assertEqual(self.assert_all_functions_end(one, one)[1], None)
        source = random.Random(76)
        other = (KINDS_OF_FOUR, ternary(lambda x, y, z: x + y + z + 2 * source.randrange(2)), 4)
        self.assertEqual(self.assert_all_functions_end(one, other)[1], 4)


class LargePartsTest(unittest.TestCase):

    def assert_all_functions_end(self, library):
        self.assertIs(is_library(library), True)
        everything = tuple(range(30))
        found = kept(library, everything)
        least = core(library)
        self.assertEqual(least is None, found == everything)
        if least is not None:
            self.assertIs(is_core(library, least), True)
        registry = Registry(library[0], library[2])
        self.assertEqual(registry.offer(library[1]), tuple([at in found for at in everything]))
        text = show_library(library)
        self.assertEqual(read_library(text), library)
        self.assertEqual(Session(text).run('show'), show_library(registry.library()).replace('\n', ' / '))
        self.assert_ten_items(library[:1] + (library[1][::3],) + library[2:])
        self.assert_ten_items(library[:1] + (library[1][10:20],) + library[2:])
        return len(found)

    def assert_ten_items(self, library):
        self.assertEqual(len(library[1]), 10)
        found = cores(library)
        self.assertEqual(found == (), coherent(library))
        for missing in repairs(library):
            self.assertTrue(all([set(missing) & set(this) for this in found]))
            left = tuple([place for place in range(10) if place not in missing])
            self.assertEqual(kept(library, left + missing), left)

    def test_sums(self):
        self.assertEqual(self.assert_all_functions_end((KINDS, definitions(30, lambda x, y: x + y), 4)), 30)

    def test_tables_without_order(self):
        source = random.Random(77)
        library = (KINDS, definitions(30, lambda x, y: source.randrange(8)), 4)
        self.assertGreater(self.assert_all_functions_end(library), 5)

    def test_conversions(self):
        source = random.Random(78)
        for is_implicit in (True, False):
            self.assert_all_functions_end((KINDS, conversions(is_implicit, lambda value: source.randrange(8)), 4))
        self.assertEqual(self.assert_all_functions_end((KINDS, conversions(True, lambda value: value), 4)), 30)

    def test_conversions_and_definitions(self):
        source = random.Random(79)
        steps = conversions(True, lambda value: value)[::2]
        library = (KINDS, steps + definitions(15, lambda x, y: x + y + 2 * source.randrange(2)), 4)
        self.assertGreater(self.assert_all_functions_end(library), 15)

    def test_three_parameters(self):
        library = (KINDS_OF_FOUR, ternary(lambda x, y, z: x + y + z), 4)
        self.assertEqual(self.assert_all_functions_end(library), 30)
