import importlib
import inspect
import unittest

from samereading.chains import chains, follow, is_chain, reached
from samereading.clashes import clash, clash_size, derived_pair, row_sizes, shows_clash, unfolded
from samereading.errors import BadItem, BadKinds, BadText, DifferentKinds, NoNumber, NoPlace
from samereading.expressions import height, inputs_used, is_expression, operators_used, size, substituted
from samereading.library import extended, is_item, is_kinds, is_library, part, renamed
from samereading.local import local_agree, local_clash
from samereading.parts import conservative, core, cores, is_core, kept, repairs
from samereading.readings import (
    kinds_of, reading_at, reading_count, reading_kind, reading_number, results, value_of,
)
from samereading.registry import Registry
from samereading.relation import agree, agreement, coherent, is_closed, pair_clashes, pairs, shows_agreement
from samereading.session import Session
from samereading.texts import read_expression, read_item, read_library, show_expression, show_item, show_library
from tests.samples import ADDB, KINDS, ONES, SUM, WIDE, WIDEN

PARAMETERS = {
    'library': {
        'is_kinds': ['value'],
        'is_item': ['kinds', 'value'],
        'is_library': ['value'],
        'part': ['library', 'places'],
        'extended': ['library', 'item'],
        'renamed': ['library', 'names'],
    },
    'chains': {
        'chains': ['library', 'source', 'target'],
        'reached': ['library', 'source'],
        'follow': ['library', 'chain', 'value'],
        'is_chain': ['library', 'source', 'value'],
    },
    'expressions': {
        'is_expression': ['library', 'input_kinds', 'value'],
        'size': ['expression'],
        'height': ['expression'],
        'operators_used': ['expression'],
        'inputs_used': ['expression'],
        'substituted': ['expression', 'arguments'],
    },
    'readings': {
        'kinds_of': ['library', 'input_kinds', 'expression'],
        'reading_count': ['library', 'input_kinds', 'expression', 'target'],
        'reading_at': ['library', 'input_kinds', 'expression', 'target', 'number'],
        'reading_kind': ['library', 'input_kinds', 'expression', 'value'],
        'reading_number': ['library', 'input_kinds', 'expression', 'reading'],
        'value_of': ['library', 'input_kinds', 'expression', 'reading', 'inputs'],
        'results': ['library', 'input_kinds', 'expression', 'target', 'inputs'],
    },
    'relation': {
        'pairs': ['one', 'other'],
        'is_closed': ['one', 'other', 'value'],
        'pair_clashes': ['one', 'other', 'pair'],
        'agree': ['one', 'other'],
        'coherent': ['library'],
        'agreement': ['one', 'other'],
        'shows_agreement': ['one', 'other', 'value'],
    },
    'clashes': {
        'derived_pair': ['one', 'other', 'value'],
        'shows_clash': ['one', 'other', 'value'],
        'clash': ['one', 'other'],
        'clash_size': ['one', 'other'],
        'row_sizes': ['derivation'],
        'unfolded': ['one', 'other', 'clash'],
    },
    'local': {
        'local_agree': ['one', 'other'],
        'local_clash': ['one', 'other'],
    },
    'parts': {
        'kept': ['library', 'order'],
        'core': ['library'],
        'is_core': ['library', 'places'],
        'cores': ['library'],
        'repairs': ['library'],
        'conservative': ['library', 'item'],
    },
    'texts': {
        'show_library': ['library'],
        'show_item': ['item'],
        'show_expression': ['expression'],
        'read_library': ['text'],
        'read_item': ['kinds', 'text'],
        'read_expression': ['library', 'input_kinds', 'text'],
    },
}

METHODS = {
    Registry: {
        '__init__': ['self', 'kinds', 'limit'],
        'library': ['self'],
        '__len__': ['self'],
        '__eq__': ['self', 'other'],
        'accepts': ['self', 'item'],
        'add': ['self', 'item'],
        'offer': ['self', 'items'],
        'remove': ['self', 'place'],
        'undo': ['self'],
        'changes': ['self'],
        'copy': ['self'],
    },
    Session: {
        '__init__': ['self', 'text'],
        'run': ['self', 'line'],
    },
}

TASK = {'library': WIDE, 'input_kinds': ('bit', 'bit'), 'expression': SUM}
NARROW = ('call', ('bit', 'bit', 'bit'), (('input', ()), ('input', ())), ('widen',))
EMPTY = (KINDS, (), 0)
EQUAL = tuple([((kind, value), (kind, value)) for kind, count in KINDS for value in range(count)])
ROWS = (
    ('input', 'bit', 1),
    ('call', 'add', ('int', 'int', 'int'), ('bit', 'bit', 'bit'), ((0, ('widen',), ()), (0, ('widen',), ()))),
)
BOTH = {'one': WIDE, 'other': WIDE}
APART = {'one': WIDE, 'other': EMPTY}


class InterfaceTest(unittest.TestCase):

    def test_functions_stand_in_their_files_with_their_parameters(self):
        for name, functions in PARAMETERS.items():
            module = importlib.import_module('samereading.' + name)
            for word, parameters in functions.items():
                function = getattr(module, word)
                self.assertTrue(inspect.isfunction(function), word)
                self.assertEqual(function.__module__, 'samereading.' + name)
                self.assertEqual(list(inspect.signature(function).parameters), parameters)

    def test_classes_stand_in_their_files_with_all_of_their_methods(self):
        for owner, file in ((Registry, 'registry'), (Session, 'session')):
            self.assertEqual(owner.__module__, 'samereading.' + file)
            self.assertEqual(owner.__bases__, (object,))
            for word, parameters in METHODS[owner].items():
                self.assertIn(word, vars(owner))
                self.assertEqual(list(inspect.signature(vars(owner)[word]).parameters), parameters)
        self.assertEqual(inspect.signature(Registry).parameters['limit'].default, 1)

    def test_arguments_by_name_in_any_order(self):
        calls = (
            (is_kinds, {'value': KINDS}, True),
            (is_item, {'value': WIDEN, 'kinds': KINDS}, True),
            (is_library, {'value': WIDE}, True),
            (part, {'places': (0,), 'library': WIDE}, (KINDS, (WIDEN,), 1)),
            (extended, {'item': WIDEN, 'library': (KINDS, (), 1)}, (KINDS, (WIDEN,), 1)),
            (renamed, {'names': {'bit': 'unit'}, 'library': ((('bit', 1),), (), 0)}, ((('unit', 1),), (), 0)),
            (chains, {'target': 'int', 'source': 'bit', 'library': WIDE}, (('widen',),)),
            (reached, {'source': 'int', 'library': WIDE}, ('int',)),
            (follow, {'value': 1, 'chain': ('widen',), 'library': WIDE}, 1),
            (is_chain, {'value': ('widen',), 'source': 'bit', 'library': WIDE}, True),
            (is_expression, {'value': SUM, 'input_kinds': ('bit', 'int'), 'library': WIDE}, True),
            (size, {'expression': SUM}, 3),
            (height, {'expression': SUM}, 2),
            (operators_used, {'expression': SUM}, ('add',)),
            (inputs_used, {'expression': SUM}, (0, 1)),
            (substituted, {'arguments': (SUM,), 'expression': ('input', 0)}, SUM),
            (kinds_of, TASK, ('bit', 'int')),
            (reading_count, {'target': 'int', **TASK}, 2),
            (reading_at, {'number': 1, 'target': 'int', **TASK}, NARROW),
            (reading_kind, {'value': NARROW, **TASK}, 'int'),
            (reading_number, {'reading': NARROW, **TASK}, 1),
            (value_of, {'inputs': (1, 0), 'reading': NARROW, **TASK}, 1),
            (results, {'inputs': (1, 1), 'target': 'int', **TASK}, (0, 2)),
            (pairs, APART, EQUAL),
            (is_closed, {'value': EQUAL, **APART}, True),
            (pair_clashes, {'pair': (('bit', 0), ('int', 1)), **APART}, True),
            (pair_clashes, {'pair': (('int', 0), ('bit', 1)), **APART}, False),
            (agree, APART, True),
            (coherent, {'library': WIDE}, False),
            (agreement, APART, EQUAL),
            (shows_agreement, {'value': EQUAL, **APART}, True),
            (derived_pair, {'value': ROWS, **BOTH}, (('int', 2), ('bit', 0))),
            (shows_clash, {'value': (ROWS, (), ('widen',)), **BOTH}, True),
            (clash, APART, None),
            (clash_size, BOTH, 3),
            (row_sizes, {'derivation': ROWS}, (1, 3)),
            (local_agree, BOTH, False),
            (local_clash, APART, None),
            (kept, {'order': (2, 1, 0), 'library': WIDE}, (1, 2)),
            (core, {'library': WIDE}, (0, 1, 2)),
            (is_core, {'places': (0, 1, 2), 'library': WIDE}, True),
            (cores, {'library': WIDE}, ((0, 1, 2),)),
            (repairs, {'library': WIDE}, ((0,), (1,), (2,))),
            (conservative, {'item': ADDB, 'library': part(WIDE, (0, 1))}, False),
            (show_library, {'library': EMPTY}, 'limit 0\nkind bit 2\nkind int 4'),
            (show_item, {'item': WIDEN}, 'implicit widen bit int 0,1'),
            (show_expression, {'expression': SUM}, 'add(#0, #1)'),
            (read_library, {'text': 'limit 0\nkind bit 2\nkind int 4'}, EMPTY),
            (read_item, {'text': 'implicit widen bit int 0,1', 'kinds': KINDS}, WIDEN),
            (read_expression, {'text': 'add(#0, #1)', 'input_kinds': ('bit', 'int'), 'library': WIDE}, SUM),
        )
        for function, values, expected in calls:
            backwards = dict(reversed(list(values.items())))
            for _ in range(2):
                self.assertEqual(function(**values), expected)
                self.assertEqual(function(**backwards), expected)

    def test_clashes_by_name_in_any_order(self):
        found = (('bit', 'bit'), SUM, ('call', ('int',) * 3, (('input', ('widen',)),) * 2, ()), NARROW, (1, 1))
        self.assertEqual(unfolded(clash=(ROWS, (), ('widen',)), other=WIDE, one=WIDE), found)
        turned = (KINDS, (WIDEN, ('definition', 'no', ('bit',), 'bit', (1, 0))), 1)
        other = (KINDS, (('definition', 'no', ('bit',), 'int', (2, 2)),), 1)
        for function in (clash, local_clash):
            self.assertEqual(function(other=other, one=turned), function(turned, other))
            self.assertNotEqual(function(other=turned, one=other), function(turned, other))

    def test_error_by_name(self):
        with self.assertRaises(BadItem) as found:
            extended(item=WIDEN, library=WIDE)
        self.assertEqual(found.exception.item, WIDEN)
        with self.assertRaises(NoNumber) as found:
            reading_at(number=2, target='int', **TASK)
        self.assertEqual(found.exception.value, 2)
        with self.assertRaises(DifferentKinds):
            shows_clash(value=None, other=(KINDS[:1], (), 0), one=WIDE)

    def test_methods_by_name(self):
        registry = Registry(limit=2, kinds=KINDS)
        self.assertIs(registry.accepts(item=WIDEN), True)
        self.assertIsNone(registry.add(item=WIDEN))
        self.assertEqual(registry.offer(items=(WIDEN, ADDB)), (False, True))
        self.assertEqual(registry.remove(place=0), WIDEN)
        self.assertEqual(registry.library(), (KINDS, (ADDB,), 2))
        with self.assertRaises(NoPlace) as found:
            registry.remove(place=1)
        self.assertEqual(found.exception.value, 1)
        with self.assertRaises(BadKinds):
            Registry(limit=None, kinds=None)
        session = Session(text='limit 0\nkind bit 2')
        self.assertEqual(session.run(line='show'), 'limit 0 / kind bit 2')
        with self.assertRaises(BadText):
            Session(text=None)

    def test_equal_but_not_identical_arguments(self):
        again = (tuple([tuple([''.join(list(name)), count]) for name, count in KINDS]), tuple(list(ONES)), 1)
        self.assertIs(is_library(again), True)
        self.assertEqual(chains(again, ''.join(['b', 'it']), ''.join(['b', 'it'])), ((),))


if __name__ == '__main__':
    unittest.main()
