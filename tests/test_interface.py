import importlib
import inspect
import unittest

from samereading.chains import chains, follow, is_chain, reached
from samereading.errors import BadItem
from samereading.expressions import height, inputs_used, is_expression, operators_used, size, substituted
from samereading.library import extended, is_item, is_kinds, is_library, part, renamed
from tests.samples import KINDS, ONES, SUM, WIDE, WIDEN

PARAMETERS = {
    'library': {
        'is_kinds': ['value'],
        'is_item': ['kinds', 'value'],
        'is_library': ['value'],
        'part': ['library', 'places'],
        'extended': ['library', 'item'],
        'renamed': ['library', 'names'],
    },
    'chains': {
        'chains': ['library', 'source', 'target'],
        'reached': ['library', 'source'],
        'follow': ['library', 'chain', 'value'],
        'is_chain': ['library', 'source', 'value'],
    },
    'expressions': {
        'is_expression': ['library', 'input_kinds', 'value'],
        'size': ['expression'],
        'height': ['expression'],
        'operators_used': ['expression'],
        'inputs_used': ['expression'],
        'substituted': ['expression', 'arguments'],
    },
}


class InterfaceTest(unittest.TestCase):

    def test_functions_stand_in_their_files_with_their_parameters(self):
        for name, functions in PARAMETERS.items():
            module = importlib.import_module('samereading.' + name)
            for word, parameters in functions.items():
                function = getattr(module, word)
                self.assertTrue(inspect.isfunction(function), word)
                self.assertEqual(function.__module__, 'samereading.' + name)
                self.assertEqual(list(inspect.signature(function).parameters), parameters)

    def test_arguments_by_name_in_any_order(self):
        calls = (
            (is_kinds, {'value': KINDS}, True),
            (is_item, {'value': WIDEN, 'kinds': KINDS}, True),
            (is_library, {'value': WIDE}, True),
            (part, {'places': (0,), 'library': WIDE}, (KINDS, (WIDEN,), 1)),
            (extended, {'item': WIDEN, 'library': (KINDS, (), 1)}, (KINDS, (WIDEN,), 1)),
            (renamed, {'names': {'bit': 'unit'}, 'library': ((('bit', 1),), (), 0)}, ((('unit', 1),), (), 0)),
            (chains, {'target': 'int', 'source': 'bit', 'library': WIDE}, (('widen',),)),
            (reached, {'source': 'int', 'library': WIDE}, ('int',)),
            (follow, {'value': 1, 'chain': ('widen',), 'library': WIDE}, 1),
            (is_chain, {'value': ('widen',), 'source': 'bit', 'library': WIDE}, True),
            (is_expression, {'value': SUM, 'input_kinds': ('bit', 'int'), 'library': WIDE}, True),
            (size, {'expression': SUM}, 3),
            (height, {'expression': SUM}, 2),
            (operators_used, {'expression': SUM}, ('add',)),
            (inputs_used, {'expression': SUM}, (0, 1)),
            (substituted, {'arguments': (SUM,), 'expression': ('input', 0)}, SUM),
        )
        for function, values, expected in calls:
            backwards = dict(reversed(list(values.items())))
            for _ in range(2):
                self.assertEqual(function(**values), expected)
                self.assertEqual(function(**backwards), expected)

    def test_error_by_name(self):
        with self.assertRaises(BadItem) as found:
            extended(item=WIDEN, library=WIDE)
        self.assertEqual(found.exception.item, WIDEN)

    def test_equal_but_not_identical_arguments(self):
        again = (tuple([tuple([''.join(list(name)), count]) for name, count in KINDS]), tuple(list(ONES)), 1)
        self.assertIs(is_library(again), True)
        self.assertEqual(chains(again, ''.join(['b', 'it']), ''.join(['b', 'it'])), ((),))


if __name__ == '__main__':
    unittest.main()
