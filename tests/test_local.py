import itertools

from samereading.clashes import clash, clash_size, row_sizes, shows_clash, unfolded
from samereading.errors import DifferentKinds
from samereading.expressions import height
from samereading.local import local_agree, local_clash
from samereading.readings import results
from samereading.relation import agree
from tests.samples import KINDS, LITERAL, WIDE, Checked
from tests.small import some_versions
from tests.test_relation import OTHER_KINDS

BIT = (('bit', 2),)
WIDEN = ('conversion', 'widen', 'bit', 'int', True, (0, 1))
NEGS = (('definition', 'neg', ('bit',), 'bit', (1, 0)), ('definition', 'neg', ('int',), 'int', (0, 3, 2, 1)))


def local_expressions(one):
    """All (input kinds, expression) with at most one node that is not an input, but for renumbered inputs."""
    kinds = [kind for kind, _ in one[0]]
    found = [((kind,), ('input', 0)) for kind in kinds]
    for kind, target in itertools.product(kinds, repeat=2):
        found.append(((kind,), ('cast', target, ('input', 0))))
    for operator in 'fg':
        for many in range(4):
            inputs = tuple([('input', number) for number in range(many)])
            found.extend([(chosen, ('call', operator, inputs)) for chosen in itertools.product(kinds, repeat=many)])
    return found


def can_differ(one, other, input_kinds, expression):
    counts = dict(one[0])
    for inputs in itertools.product(*[range(counts[kind]) for kind in input_kinds]):
        for kind in counts:
            first = results(one, input_kinds, expression, kind, inputs)
            second = results(other, input_kinds, expression, kind, inputs)
            if first and second and not first == second == first[:1]:
                return True
    return False


class LocalTest(Checked):

    def assert_local(self, one, other, expected):
        self.assertIs(self.call(local_agree, one, other), expected, (one, other))
        value = self.call(local_clash, one, other)
        self.assertEqual(value is None, expected)
        if value is None:
            return
        self.assert_true(shows_clash, one, other, value)
        *below, last = value[0]
        arguments = () if last[0] == 'input' else last[4] if last[0] == 'call' else (last[4],)
        self.assertTrue(all([value[0][argument[0]][0] == 'input' for argument in arguments]))
        self.assertTrue(clash_size(one, other) <= row_sizes(value[0])[-1] <= 4)
        self.assertIs(agree(one, other), False)
        self.assertLessEqual(height(unfolded(one, other, value)[1]), 2)

    def test_examples(self):
        self.assert_local(WIDE, WIDE, False)
        self.assert_local(LITERAL, LITERAL, True)
        self.assert_local((KINDS, NEGS + (WIDEN,), 1), (KINDS, NEGS + (WIDEN,), 1), False)
        self.assert_local((KINDS, NEGS + (WIDEN,), 0), (KINDS, NEGS + (WIDEN,), 0), True)
        one = (BIT, (('definition', 'one', (), 'bit', (1,)),), 0)
        other = (BIT, (('definition', 'one', (), 'bit', (0,)),), 0)
        self.assertEqual(local_clash(one, other), ((('call', 'one', ('bit',), ('bit',), ()),), (), ()))
        self.assertRaises(DifferentKinds, local_agree, (BIT, (), 0), ((('bit', 3),), (), 0))

    def test_all_expressions_with_at_most_one_other_node(self):
        found = {True: 0, False: 0}
        for one, other in some_versions(160, 51, 8):
            expected = not any([can_differ(one, other, *row) for row in local_expressions(one)])
            self.assert_local(one, other, expected)
            found[expected] += 1
        self.assertTrue(found[True] > 30 and found[False] > 15)

    def test_local_agreement_is_not_agreement(self):
        # (f) of section 4.
        many = 0
        for one, other in some_versions(1500, 52, 7):
            size = clash_size(one, other)
            if size is not None and local_agree(one, other):
                self.assertGreater(size, 1)
                rows = clash(one, other)[0]
                arguments = rows[-1][4] if rows[-1][0] == 'call' else (rows[-1][4],)
                self.assertTrue([argument for argument in arguments if rows[argument[0]][0] != 'input'])
                many += 1
            if size is None:
                self.assertIs(local_agree(one, other), True)
        self.assertGreater(many, 5)
        self.assertIs(agree(LITERAL, LITERAL), False)

    def test_a_clash_of_an_input_alone(self):
        one = (KINDS, (WIDEN,), 1)
        other = (KINDS, (WIDEN[:5] + ((0, 2),),), 1)
        self.assert_local(one, other, False)
        self.assertEqual(local_clash(one, other), ((('input', 'bit', 1),), ('widen',), ('widen',)))
        self.assert_local((KINDS, (WIDEN,), 0), other, True)
        self.assert_local(one, (KINDS, other[1], 0), True)
        both = (KINDS, (WIDEN, ('conversion', 'more', 'bit', 'int', True, (2, 1))), 1)
        self.assert_local(both, both, False)
        self.assertEqual(local_clash(both, both)[0], (('input', 'bit', 0),))

    def test_a_clash_of_a_cast(self):
        cast = ('conversion', 'up', 'bit', 'int', False, (0, 3))
        one = (KINDS, (WIDEN, cast), 1)
        self.assert_local(one, one, False)
        self.assertEqual(local_clash(one, one)[0][-1][:2], ('cast', 'int'))
        self.assertEqual(clash_size(one, one), 2)
        self.assert_local((KINDS, (cast,), 1), (KINDS, (WIDEN,), 1), False)
        self.assert_local((KINDS, (cast,), 1), (KINDS, (cast,), 1), True)

    def test_a_clash_of_a_call(self):
        one = (KINDS, NEGS[:1], 1)
        other = (KINDS, (('definition', 'neg', ('bit',), 'bit', (1, 1)),), 1)
        self.assert_local(one, other, False)
        self.assertEqual(local_clash(one, other)[0][-1][:2], ('call', 'neg'))
        self.assert_local(one, (KINDS, (), 1), True)

    def test_calls_below_calls_are_not_considered(self):
        one = (KINDS, (('definition', 'f', (), 'bit', (1,)), ('definition', 'g', ('bit',), 'bit', (0, 1))), 0)
        other = (KINDS, (('definition', 'f', (), 'int', (1,)), ('definition', 'g', ('int',), 'bit', (0, 0, 1, 1))), 0)
        self.assert_local(one, other, True)
        self.assertEqual(clash_size(one, other), 2)
        cast = (KINDS, one[1][:1] + (('conversion', 'up', 'bit', 'int', False, (2, 2)),), 0)
        self.assert_local(cast, (KINDS, other[1][:1], 0), True)
        self.assertEqual(clash_size(cast, (KINDS, other[1][:1], 0)), 2)

    def test_a_smaller_way_over_another_call_is_not_taken(self):
        # The pair that f of three inputs gives is also that of a literal's cast; the local clash is that of f.
        kinds = (('a', 2), ('b', 2), ('c', 2))
        one = (kinds, (
            ('definition', 'f', ('a', 'a', 'a'), 'b', (1,) * 8), ('definition', 'one', (), 'a', (1,)),
            ('conversion', 'up', 'a', 'b', False, (1, 1)), ('conversion', 'on', 'b', 'c', True, (0, 1)),
        ), 1)
        other = (kinds, (
            ('definition', 'f', ('a', 'a', 'a'), 'c', (0,) * 8), ('definition', 'one', (), 'a', (1,)),
        ), 1)
        self.assert_local(one, other, False)
        self.assertEqual(local_clash(one, other)[0][-1][:2], ('call', 'f'))

    def test_libraries_without_items(self):
        self.assert_local((KINDS, (), 4), (KINDS, (), 0), True)
        self.assert_local((KINDS, (), 4), WIDE, True)

    def test_different_kinds(self):
        for kinds in OTHER_KINDS:
            for both in ((WIDE, (kinds, (), 1)), ((kinds, (), 1), WIDE)):
                self.assertRaises(DifferentKinds, local_agree, *both)
                self.assertRaises(DifferentKinds, local_clash, *both)
