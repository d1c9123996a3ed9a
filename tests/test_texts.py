import random
import unittest

from samereading.errors import BadText
from samereading.expressions import height, is_expression, size
from samereading.library import is_item, is_library
from samereading.texts import read_expression, read_item, read_library, show_expression, show_item, show_library
from tests import plain_texts
from tests.samples import (
    ADDB, ADDI, BIGS, KINDS, LITERAL, ONES, SUM, TRIANGLE, WIDE, WIDEN, WRONG_WHOLE, Checked, bushy, call_chain,
    cast_chain,
)
from tests.small import some_busy_libraries, some_expression, some_libraries
from tests.test_library import many_definitions

BIT = (('bit', 2),)
NARROW = ('conversion', 'narrow', 'int', 'bit', False, (0, 1, 0, 1))
LARGE_KINDS = tuple([(letter * 8, 8) for letter in 'abcdef'])
# None of these is a string.
NO_STRINGS = tuple([value for value in WRONG_WHOLE if not isinstance(value, str)]) + (
    b'limit 1', ['limit 1', 'kind bit 2'], ('limit 1',), WIDE, WIDEN, SUM,
)
WIDE_TEXT = (
    'limit 1\nkind bit 2\nkind int 4\nimplicit widen bit int 0,1\n'
    'definition add int,int int 0,1,2,3,1,2,3,0,2,3,0,1,3,0,1,2\ndefinition add bit,bit bit 0,1,1,0'
)
# Signs by which texts are spoiled; the last ones look like digits, letters and spaces.
SIGNS = (' ', '\n', ',', '-', '0', '1', '2', '9', 'a', 'b', 'A', '#', '<', '>', '(', ')', '+', '.', '\t', '\r',
         '\u0661', '\u00b2', '\uff11', '\u00e4', '\u0430', '\u00a0', '\u2028', '\x0b', '\x00', '\ud800')


def spoiled_text(source, text):
    """The text with one of its parts left out, repeated, replaced or moved."""
    at, end = sorted([source.randint(0, len(text)), source.randint(0, len(text))])
    near = min(at + source.randint(1, 3), len(text))
    return source.choice((
        text[:at] + text[near:], text[:near] + text[at:], text[:at] + source.choice(SIGNS) + text[at:],
        text[:at] + source.choice(SIGNS) + text[at + 1:], text[:at] + text[end:], text[at:end] + text[:at] + text[end:],
        text[:at], text + text[at:near],
    ))


def spoiled_lines(source, text):
    """The text with one of its lines left out, repeated, moved or spoiled."""
    lines = text.split('\n')
    at, to = source.randrange(len(lines)), source.randrange(len(lines) + 1)
    less = lines[:at] + lines[at + 1:]
    return '\n'.join(source.choice((
        less, lines[:to] + [lines[at]] + lines[to:], less[:to] + [lines[at]] + less[to:], lines[:to],
        lines[:at] + [spoiled_text(source, lines[at])] + lines[at + 1:], lines[:to] + [''] + lines[to:],
    )))


class ShowTest(Checked):

    def test_examples(self):
        self.assertEqual(self.call(show_item, WIDEN), 'implicit widen bit int 0,1')
        self.assertEqual(self.call(show_expression, ('cast', 'int', SUM)), '<int>add(#0, #1)')

    def test_items(self):
        rows = (
            (NARROW, 'explicit narrow int bit 0,1,0,1'), (ADDB, 'definition add bit,bit bit 0,1,1,0'),
            (ONES[0], 'definition one - int 1'), (BIGS[0], 'definition big int bit 0,0,1,1'),
            (('definition', 'f', ('a', 'b', 'a'), 'b', (0,)), 'definition f a,b,a b 0'),
            (('conversion', 'x', 'a', 'b', True, (7,)), 'implicit x a b 7'),
        )
        for item, text in rows:
            self.assertEqual(self.call(show_item, item), text)

    def test_libraries(self):
        self.assertEqual(self.call(show_library, WIDE), WIDE_TEXT)
        self.assertEqual(self.call(show_library, (BIT, (), 0)), 'limit 0\nkind bit 2')
        self.assertEqual(self.call(show_library, TRIANGLE), (
            'limit 2\nkind a 1\nkind b 1\nkind c 1\nimplicit ab a b 0\nimplicit bc b c 0\nimplicit ac a c 0'
        ))
        self.assertEqual(self.call(show_library, (LARGE_KINDS, (), 4)).split('\n')[6], 'kind ffffffff 8')

    def test_expressions(self):
        rows = (
            (('input', 0), '#0'), (('input', 7), '#7'), (('input', 12), '#12'), (('call', 'f', ()), 'f()'),
            (('call', 'f', (('input', 1),)), 'f(#1)'), (SUM, 'add(#0, #1)'),
            (('call', 'f', (('call', 'g', ()), ('input', 0), ('cast', 'a', ('input', 2)))), 'f(g(), #0, <a>#2)'),
            (('cast', 'a', ('cast', 'b', ('input', 0))), '<a><b>#0'),
            (('cast', 'a', ('call', 'f', (('cast', 'b', ('input', 0)),))), '<a>f(<b>#0)'),
        )
        for expression, text in rows:
            self.assertEqual(self.call(show_expression, expression), text)

    def test_many_expressions(self):
        source = random.Random(111)
        for library in some_libraries(120, 112):
            for input_kinds in ((), (library[0][0][0],) * source.randint(1, 8)):
                expression = some_expression(source, library, input_kinds, source.randint(1, 6))
                self.assertEqual(self.call(show_expression, expression), plain_texts.written(expression))

    def test_deep_and_large_expressions(self):
        for expression in (cast_chain(25), call_chain(25), bushy(200), call_chain(200), cast_chain(200)):
            self.assertEqual(self.call(show_expression, expression), plain_texts.written(expression))


class ReadItemTest(Checked):

    def assert_no_item(self, kinds, text):
        self.assert_error(BadText, {'position': 0}, read_item, kinds, text)

    def test_example(self):
        expected = ('definition', 'not', ('bit',), 'bit', (1, 0))
        self.assertEqual(self.call(read_item, BIT, 'definition not bit bit 1,0'), expected)

    def test_what_was_written(self):
        for item in WIDE[1] + LITERAL[1] + (NARROW,):
            found = self.call(read_item, KINDS, show_item(item))
            self.assertEqual(repr(found), repr(item))
        for library in some_libraries(150, 113, 9):
            for item in library[1]:
                self.assertEqual(repr(read_item(library[0], show_item(item))), repr(item))

    def test_the_largest_table(self):
        item = ('definition', 'f', ('aaaaaaaa', 'bbbbbbbb'), 'cccccccc', tuple([at % 8 for at in range(64)]))
        self.assertEqual(self.call(read_item, LARGE_KINDS, show_item(item)), item)
        self.assert_no_item(LARGE_KINDS, show_item(item) + ',0')
        three = ('definition', 'f', ('aaaaaaaa',) * 3, 'cccccccc', (0,) * 512)
        self.assert_no_item(LARGE_KINDS, show_item(three))

    def test_what_is_no_string(self):
        for value in NO_STRINGS:
            self.assert_no_item(KINDS, value)

    def test_other_strings(self):
        for value in ('', ' ', '-', '\n', 'bit', '0', 'definition', 'implicit', '    ', WIDE_TEXT, 'limit 1',
                      'kind a 1'):
            self.assert_no_item(KINDS, value)

    def test_numbers(self):
        for word in ('00,1', '0,01', '0,1,', ',0,1', '0,,1', '', ',', '-', '0', '0,1,0', '0,4', '+0,1', '-0,1', '0,-1',
                     '0, 1', '0,1 ', ' 0,1', '0;1', '0.1', '0,1\n', '0,1\t', '0,\u0661', '0,\uff11', '0,\u00b9', '0,a',
                     '0,1_0', '0x0,1', '0,' + '1' * 5000, '0,1.0', '(0,1)', '0\n,1'):
            self.assert_no_item(KINDS, 'implicit widen bit int ' + word)
        self.assertEqual(read_item(KINDS, 'implicit widen bit int 0,3'), WIDEN[:5] + ((0, 3),))

    def test_parameters(self):
        kinds = (('a', 1), ('b', 1))
        for words, parameters in (('-', ()), ('a', ('a',)), ('a,b', ('a', 'b')), ('b,b,a', ('b', 'b', 'a'))):
            expected = ('definition', 'f', parameters, 'b', (0,))
            self.assertEqual(self.call(read_item, kinds, f'definition f {words} b 0'), expected)
        for words in ('', ',', 'a,', ',a', '-,a', 'a,-', '--', '-,-', 'c', 'a,c', 'a,b,a,b', 'a, b', 'A', '()', 'a;b',
                      'a-'):
            self.assert_no_item(kinds, f'definition f {words} b 0')
        for line in ('definition f  b 0', 'definition f b 0', 'definition f - - 0', 'definition - - b 0',
                     'definition f - b -', 'definition f - b ', 'definition f - b', 'definition f - c 0',
                     'implicit x a,b b 0', 'implicit x - b 0', 'implicit x a - 0', 'implicit x a a 0',
                     'implicit x a b -'):
            self.assert_no_item(kinds, line)

    def test_words(self):
        for line in ('implicit widen bit int 0,1', 'definition one - int 1', 'explicit narrow int bit 0,1,0,1'):
            words = line.split(' ')
            self.assertIs(is_item(KINDS, self.call(read_item, KINDS, line)), True)
            for at in range(len(words)):
                self.assert_no_item(KINDS, ' '.join(words[:at] + words[at + 1:]))
                self.assert_no_item(KINDS, ' '.join(words[:at + 1] + words[at:]))
                self.assert_no_item(KINDS, ' '.join(words[:at] + [''] + words[at:]))
                if words[at].isalpha():
                    self.assert_no_item(KINDS, ' '.join(words[:at] + [words[at].upper()] + words[at + 1:]))
                    self.assert_no_item(KINDS, ' '.join(words[:at] + [words[at].title()] + words[at + 1:]))
            for text in (' ' + line, line + ' ', line + '\n', '\n' + line, line + '\n' + line, line.replace(' ', '  '),
                         line.replace(' ', '\t'), line + '\t', line + '\r', line.replace(' ', '\u00a0'), line + '\x00'):
                self.assert_no_item(KINDS, text)
        for line in ('conversion widen bit int 0,1', 'implicitly widen bit int 0,1', 'define one - int 1'):
            self.assert_no_item(KINDS, line)

    def test_names(self):
        for name in ('a', 'z', 'abcdefgh', 'implicit', 'limit', 'kind', 'bit'):
            self.assertEqual(read_item(KINDS, f'definition {name} - bit 0')[1], name)
            self.assertEqual(read_item(KINDS, f'implicit {name} bit int 0,1')[1], name)
        for name in ('abcdefghi', 'A', 'aB', 'a1', '1', 'a_b', 'a-b', '\u00e4', '\u0430', '-', ',', 'a,b', '#', ''):
            self.assert_no_item(KINDS, f'definition {name} - bit 0')
            self.assert_no_item(KINDS, f'implicit {name} bit int 0,1')

    def test_only_for_these_kinds(self):
        line = show_item(WIDEN)
        for kinds in (BIT, (('bit', 3), ('int', 4)), (('bit', 2), ('int', 1)), (('bits', 2), ('int', 4))):
            self.assert_no_item(kinds, line)
        self.assertEqual(read_item((('bit', 2), ('int', 2), ('x', 1)), line), WIDEN)

    def test_many_spoiled_lines(self):
        source = random.Random(114)
        found = {True: 0, False: 0}
        for library in some_libraries(250, 115, 8):
            for item in library[1]:
                for _ in range(6):
                    text = spoiled_text(source, show_item(item))
                    expected = plain_texts.item_of(library[0], text)
                    if expected is None:
                        with self.assertRaises(BadText) as error:
                            read_item(library[0], text)
                        self.assertEqual(error.exception.position, 0)
                    else:
                        self.assertEqual(repr(read_item(library[0], text)), repr(expected))
                    found[expected is None] += 1
        self.assertTrue(found[True] > 1000 and found[False] > 100, found)


class ReadLibraryTest(Checked):

    def assert_wrong_at(self, position, text):
        self.assert_error(BadText, {'position': position}, read_library, text)

    def test_example(self):
        self.assert_wrong_at(2, 'limit 2\nkind bit 2\ndefinition no - bit 2')

    def test_what_was_written(self):
        full = (KINDS, many_definitions(30), 2)
        for library in (WIDE, LITERAL, TRIANGLE, (KINDS, (), 4), (LARGE_KINDS, (), 3), full):
            found = self.call(read_library, show_library(library))
            self.assertEqual(repr(found), repr(library))
        for library in some_libraries(200, 116, 9) + some_busy_libraries(50, 117, 16):
            self.assertEqual(repr(read_library(show_library(library))), repr(library))

    def test_incoherent_libraries_may_be_read(self):
        self.assertEqual(read_library(WIDE_TEXT), WIDE)

    def test_what_is_no_string(self):
        for value in NO_STRINGS:
            self.assert_wrong_at(0, value)

    def test_limits(self):
        for limit in range(5):
            self.assertEqual(self.call(read_library, f'limit {limit}\nkind bit 2'), (BIT, (), limit))
        for word in ('5', '-1', '+1', '01', '00', '10', '', ' 1', '1 ', '1.', 'True', 'one', '\u0661', '\uff11', '-',
                     '1,1'):
            self.assert_wrong_at(0, f'limit {word}\nkind bit 2')
        for line in ('limit', 'Limit 1', 'limits 1', 'limit1', ' limit 1', 'limit\t1', 'limit 1 1', '1', 'limit 1\r'):
            self.assert_wrong_at(0, line + '\nkind bit 2')

    def test_too_short(self):
        self.assert_wrong_at(0, '')
        self.assert_wrong_at(1, 'limit 1')
        self.assert_wrong_at(1, 'limit 1\n')
        self.assert_wrong_at(0, 'limit')
        self.assert_wrong_at(0, 'kind bit 2')
        self.assert_wrong_at(1, 'limit 1\ndefinition one - bit 0')

    def test_empty_lines(self):
        lines = WIDE_TEXT.split('\n')
        for at in range(len(lines) + 1):
            self.assert_wrong_at(at, '\n'.join(lines[:at] + [''] + lines[at:]))
            self.assert_wrong_at(at, '\n'.join(lines[:at] + ['', ''] + lines[at:]))
            self.assert_wrong_at(at, '\n'.join(lines[:at] + [' '] + lines[at:]))
        self.assert_wrong_at(0, '\n')
        self.assert_wrong_at(0, '\n\n\n')

    def test_spaces(self):
        lines = WIDE_TEXT.split('\n')
        for at, line in enumerate(lines):
            for wrong in (' ' + line, line + ' ', line.replace(' ', '  '), line.replace(' ', '\t'), line + '\t',
                          line + '\r', line + '\x0b', line + '\u2028'):
                self.assert_wrong_at(at, '\n'.join(lines[:at] + [wrong] + lines[at + 1:]))
            for sign in ('\r', '\r\n', '\x0c', '\u2028', ' \n', '\n '):
                self.assertRaises(BadText, read_library, sign.join(lines))

    def test_kinds(self):
        self.assertEqual(read_library('limit 1\nkind a 1\nkind b 8'), ((('a', 1), ('b', 8)), (), 1))
        self.assert_wrong_at(2, 'limit 1\nkind b 1\nkind a 8')
        self.assert_wrong_at(2, 'limit 1\nkind a 1\nkind a 1')
        self.assert_wrong_at(2, 'limit 1\nkind aa 1\nkind a 1')
        self.assert_wrong_at(3, 'limit 1\nkind a 1\nkind c 1\nkind b 1\nkind a 1')
        for count in ('0', '9', '-1', '01', '10', '', '+1', '1.0', 'a', '\u0661', '\u00b2', '1,2', '-'):
            self.assert_wrong_at(1, f'limit 1\nkind bit {count}')
        for name in ('', 'Bit', 'bits' * 3, 'abcdefghi', 'b1', '-', 'a,b', '\u00e4', '#', '1'):
            self.assert_wrong_at(1, f'limit 1\nkind {name} 2')
        for line in ('kind', 'kind bit', 'kind 2', 'kind bit 2 2', 'kinds bit 2', 'Kind bit 2', 'kindbit 2'):
            self.assert_wrong_at(1, f'limit 1\n{line}\nkind c 1')

    def test_number_of_kinds(self):
        lines = ['limit 1'] + [f'kind {letter} 1' for letter in 'abcdefgh']
        for many in range(1, 7):
            self.assertEqual(len(read_library('\n'.join(lines[:many + 1]))[0]), many)
        self.assert_wrong_at(7, '\n'.join(lines[:8]))
        self.assert_wrong_at(7, '\n'.join(lines))

    def test_kinds_after_items(self):
        self.assert_wrong_at(3, 'limit 1\nkind a 1\ndefinition one - a 0\nkind b 1')
        self.assert_wrong_at(2, 'limit 1\nkind a 1\nimplicit ab a b 0\nkind b 1')
        self.assert_wrong_at(4, WIDE_TEXT.replace('\nimplicit', '\ndefinition one - int 1\nkind word 1\nimplicit'))

    def test_limit_lines_further_down(self):
        self.assert_wrong_at(1, 'limit 1\nlimit 1\nkind a 1')
        self.assert_wrong_at(2, 'limit 1\nkind a 1\nlimit 1')
        self.assert_wrong_at(6, WIDE_TEXT + '\nlimit 1')
        self.assert_wrong_at(6, WIDE_TEXT + '\n' + WIDE_TEXT)

    def test_number_of_items(self):
        items = many_definitions(32)
        for many in (29, 30):
            self.assertEqual(len(read_library(show_library((KINDS, items[:many], 1)))[1]), many)
        self.assert_wrong_at(33, show_library((KINDS, items[:31], 1)))
        self.assert_wrong_at(33, show_library((KINDS, items, 1)))

    def test_items_twice(self):
        lines = WIDE_TEXT.split('\n')
        for at in (3, 4, 5):
            self.assert_wrong_at(6, WIDE_TEXT + '\n' + lines[at])
            self.assert_wrong_at(at + 1, '\n'.join(lines[:at + 1] + lines[at:]))
        self.assert_wrong_at(6, WIDE_TEXT + '\nexplicit widen int bit 0,0,0,0')
        self.assert_wrong_at(6, WIDE_TEXT + '\ndefinition add bit,bit bit 0,0,0,0')
        for line in ('definition widen - bit 0', 'definition add bit,bit int 0,0,0,0', 'definition add bit bit 0,0'):
            self.assertIs(is_library(self.call(read_library, WIDE_TEXT + '\n' + line)), True)

    def test_the_first_wrong_line_is_told(self):
        lines = WIDE_TEXT.split('\n')
        for at in range(len(lines)):
            self.assert_wrong_at(at, '\n'.join(lines[:at] + ['wrong'] * (len(lines) - at)))
        self.assert_wrong_at(3, '\n'.join(lines[:3] + ['implicit widen bit int 0,4', 'kind int 4']))

    def test_long_texts(self):
        self.assert_wrong_at(0, ' ' * 20000)
        self.assert_wrong_at(0, '\n' * 20000)
        self.assert_wrong_at(0, 'limit ' + '1' * 10000)
        self.assert_wrong_at(1, 'limit 1\nkind bit ' + '0' * 10000 + '1')
        self.assert_wrong_at(2, 'limit 1\nkind bit 2\ndefinition f - bit ' + '0,' * 9000 + '0')
        self.assert_wrong_at(7, WIDE_TEXT + '\ndefinition f - bit 0' * 900)

    def test_many_spoiled_texts(self):
        source = random.Random(118)
        found = {}
        for library in some_libraries(300, 119, 7):
            for change in (spoiled_text, spoiled_lines) * 4:
                text = change(source, show_library(library))
                expected = plain_texts.library_of(text)
                found[type(expected), expected if type(expected) is int else 0] = True
                if type(expected) is tuple:
                    self.assertEqual(repr(read_library(text)), repr(expected))
                else:
                    with self.assertRaises(BadText) as error:
                        read_library(text)
                    self.assertEqual(error.exception.position, expected, text)
        self.assertTrue(all([(int, at) in found for at in range(8)]) and (tuple, 0) in found)

    def test_lines_of_other_texts(self):
        # Any lines one behind the other: most of these texts go wrong somewhere in the middle.
        source = random.Random(120)
        lines = ['limit 1', 'limit 5', 'kind a 2', 'kind b 1', 'kind b 2', 'kind c 9', 'implicit x a b 0,1', '',
                 'explicit x b a 1,1', 'definition f - a 1', 'definition f a a 1,0', 'definition f - b 1',
                 'implicit y b a 0,1', 'implicit z a a 0,1', ' kind a 2']
        found = {}
        for _ in range(3000):
            text = '\n'.join(['limit 1'] * (source.random() < 0.9) + source.choices(lines, k=source.randint(0, 6)))
            expected = plain_texts.library_of(text)
            if type(expected) is tuple:
                self.assertEqual(repr(read_library(text)), repr(expected))
            else:
                with self.assertRaises(BadText) as error:
                    read_library(text)
                self.assertEqual(error.exception.position, expected, text)
            found[expected if type(expected) is int else None] = True
        self.assertLessEqual({None, 0, 1, 2, 3, 4}, set(found))


class ReadExpressionTest(Checked):

    def assert_wrong_at(self, position, library, input_kinds, text):
        self.assert_error(BadText, {'position': position}, read_expression, library, input_kinds, text)

    def test_examples(self):
        self.assert_wrong_at(9, WIDE, ('bit',), 'add(#0, #1)')
        library = (BIT, (), 0)
        expected = ('call', 'f', (('cast', 'bit', ('input', 1)), ('call', 'g', ())))
        self.assertEqual(self.call(read_expression, library, ('bit', 'bit'), 'f(<bit>#1, g())'), expected)
        self.assert_wrong_at(7, library, (), 'f(g(), #0)')

    def test_what_was_written(self):
        source = random.Random(121)
        for library in some_libraries(250, 122):
            for input_kinds in ((), (library[0][0][0],) * source.randint(1, 8)):
                expression = some_expression(source, library, input_kinds, source.randint(1, 6))
                if is_expression(library, input_kinds, expression):
                    found = self.call(read_expression, library, input_kinds, show_expression(expression))
                    self.assertEqual(repr(found), repr(expression))

    def test_what_is_no_string(self):
        for value in NO_STRINGS:
            self.assert_wrong_at(0, WIDE, ('bit',), value)

    def test_too_short(self):
        text = 'f(<bit>#1, g(), add(h(#0), <int>#1))'
        for at in range(len(text)):
            self.assert_wrong_at(at, WIDE, ('bit', 'bit'), text[:at])
        self.assertEqual(read_expression(WIDE, ('bit', 'bit'), text), plain_texts.tree(text))

    def test_each_sign_at_each_place(self):
        text = 'f(<bit>#1, g(), add(<int>#0))'
        grammar = plain_texts.Grammar(KINDS, 2)
        for at in range(len(text) + 1):
            for sign in SIGNS:
                for other in (text[:at] + sign + text[at:], text[:at] + sign + text[at + 1:]):
                    position = grammar.wrong_at(other)
                    if position is None:
                        found = read_expression(WIDE, ('bit', 'bit'), other)
                        self.assertEqual(found, plain_texts.tree(other))
                    else:
                        self.assert_wrong_at(position, WIDE, ('bit', 'bit'), other)

    def test_names(self):
        for name in ('a', 'z', 'abcdefgh', 'input', 'call', 'nosuch'):
            self.assertEqual(read_expression(WIDE, (), name + '()'), ('call', name, ()))
        for text, at in (('abcdefghi()', 8), ('abcdefghi', 8), ('A()', 0), ('aB()', 1), ('a1()', 1), ('a_b()', 1),
                         ('()', 0), (' a()', 0), ('a ()', 1), ('a( )', 2), ('a() ', 3), ('a()\n', 3), ('\u00e4()', 0),
                         ('a\u00e4()', 1), ('f(abcdefghi())', 10), ('-', 0), ('', 0), ('a', 1), ('a)', 1), ('a,', 1)):
            self.assert_wrong_at(at, WIDE, ('bit',), text)

    def test_casts(self):
        kinds = (('b', 1), ('bi', 1), ('bit', 2), ('int', 1))
        library = (kinds, (), 0)
        for name, _ in kinds:
            expected = ('cast', name, ('input', 0))
            self.assertEqual(self.call(read_expression, library, ('b',), f'<{name}>#0'), expected)
        for text, at in (('<>#0', 1), ('<c>#0', 1), ('<bits>#0', 4), ('<ba>#0', 2), ('<i>#0', 2), ('<in>#0', 3),
                         ('<b', 2), ('<bi', 3), ('<bit', 4), ('<b>', 3), ('<', 1), ('<b >#0', 2), ('< b>#0', 1),
                         ('<b> #0', 3), ('<B>#0', 1), ('<b><#0', 4), ('<b>)', 3), ('<b>,', 3), ('<b>#0>', 5),
                         ('<b#0', 2), ('<<b>#0', 1)):
            self.assert_wrong_at(at, library, ('b',), text)

    def test_numbers_of_inputs(self):
        for many in range(9):
            for number in range(12):
                text = f'#{number}'
                if number < many:
                    self.assertEqual(read_expression(WIDE, ('bit',) * many, text), ('input', number))
                elif many == 0:
                    self.assert_wrong_at(0, WIDE, (), text)
                else:
                    at = 1 if int(text[1]) >= many else 2
                    self.assert_wrong_at(at, WIDE, ('bit',) * many, text)
        for text, at in (('#', 1), ('##', 1), ('#00', 2), ('#01', 2), ('#-1', 1), ('#+0', 1), ('# 0', 1), ('#0 ', 2),
                         ('#a', 1), ('#0#0', 2), ('#\u0660', 1), ('#\uff10', 1), ('#\u00b2', 1), ('#0.', 2),
                         ('#0,', 2), ('#0)', 2), ('#' + '0' * 9999, 2), ('#' + '9' * 9999, 1)):
            self.assert_wrong_at(at, WIDE, ('bit', 'bit'), text)

    def test_more_than_eight_inputs(self):
        input_kinds = ('bit',) * 12
        for number in range(12):
            self.assertEqual(read_expression(WIDE, input_kinds, f'f(#{number})')[2], (('input', number),))
        for text, at in (('#12', 2), ('#100', 3), ('#010', 2), ('#', 1), ('f(#1, #11', 9), ('#19', 2), ('#1#', 2)):
            self.assert_wrong_at(at, WIDE, input_kinds, text)

    def test_arguments(self):
        for many in range(4):
            text = 'f(' + ', '.join(['#0'] * many) + ')'
            self.assertEqual(self.call(read_expression, WIDE, ('bit',), text), ('call', 'f', (('input', 0),) * many))
        for text, at in (('f(#0, #0, #0, #0)', 12), ('f(#0, #0, #0,', 12), ('f(g(), g(), g(), g())', 15),
                         ('f(#0,#0)', 5), ('f(#0 , #0)', 4), ('f(#0,  #0)', 6), ('f(, #0)', 2), ('f(#0, )', 6),
                         ('f(#0,)', 5), ('f(#0 #0)', 4),
                         ('f(#0', 4), ('f(#0,', 5), ('f(#0, ', 6), ('f(', 2), ('f(#0)(', 5), ('f()g()', 3), ('f(,)', 2),
                         ('f(#0, #0, #0', 12), ('f((#0))', 2), ('f(#0\n, #0)', 4), ('f(#0, \n#0)', 6), ('f(#0;#0)', 4)):
            self.assert_wrong_at(at, WIDE, ('bit',), text)

    def test_without_inputs(self):
        self.assertEqual(read_expression(WIDE, (), 'f(g(), <bit>h())')[0], 'call')
        for text, at in (('#', 0), ('#0', 0), ('f(#', 2), ('f(g(), #0)', 7), ('<bit>#0', 5), ('<bit>', 5)):
            self.assert_wrong_at(at, WIDE, (), text)

    def test_closed_once_too_often(self):
        for text in ('f()', 'f(#0)', 'f(g(#0))', 'f(' * 30 + ')' * 30, 'f(' * 5000 + ')' * 5000):
            self.assert_wrong_at(len(text), WIDE, ('bit',), text + ')')
            self.assert_wrong_at(len(text), WIDE, ('bit',), text + ')' * 20)
            self.assert_wrong_at(len(text) - 1, WIDE, ('bit',), text[:-1])

    def test_number_of_nodes(self):
        for many in (1, 2, 199, 200):
            expression = bushy(many)
            self.assertEqual(self.call(read_expression, WIDE, ('bit',), show_expression(expression)), expression)
        for many in (201, 202, 400, 1500):
            text = show_expression(bushy(many))
            self.assert_wrong_at(len(text), WIDE, ('bit',), text)
            self.assert_wrong_at(len(text), WIDE, ('bit',), text + ' ')
            self.assert_wrong_at(len(text) - 1, WIDE, ('bit',), text[:-1] + ';')
            self.assert_wrong_at(len(text) - 1, WIDE, ('bit',), text[:-1])

    def test_levels(self):
        for many in (1, 24, 25):
            for expression in (cast_chain(many), call_chain(many)):
                self.assertEqual(height(expression), many)
                self.assertEqual(self.call(read_expression, WIDE, ('bit',), show_expression(expression)), expression)
        for many in (26, 27, 200):
            for expression in (cast_chain(many), call_chain(many)):
                text = show_expression(expression)
                self.assert_wrong_at(len(text), WIDE, ('bit',), text)
                self.assert_wrong_at(len(text), WIDE, ('bit',), text + 'x')
                self.assert_wrong_at(3, WIDE, ('bit',), text[:3] + ' ' + text[3:])

    def test_levels_at_any_place(self):
        for many, is_read in ((24, True), (25, False)):
            for place in range(3):
                arguments = [('input', 0), ('call', 'g', ()), ('cast', 'bit', ('input', 0))]
                arguments[place] = cast_chain(many)
                text = show_expression(('call', 'f', tuple(arguments)))
                if is_read:
                    self.assertEqual(height(read_expression(WIDE, ('bit',), text)), 25)
                else:
                    self.assert_wrong_at(len(text), WIDE, ('bit',), text)
        wide_and_deep = ('call', 'f', (bushy(150), cast_chain(24), cast_chain(24)))
        self.assertEqual(size(wide_and_deep), 199)
        self.assertEqual(read_expression(WIDE, ('bit',), show_expression(wide_and_deep)), wide_and_deep)

    def test_thousands_opened_one_within_another(self):
        for opened, many in (('f(', 9990), ('<bit>', 3990), ('<int>f(', 2800), ('f(#0, ', 3300), ('f(g(), #0, ', 1800)):
            text = opened * many
            self.assert_wrong_at(len(text), WIDE, ('bit',), text)
            self.assert_wrong_at(len(text), WIDE, ('bit',), text + ' ')
            self.assert_wrong_at(len(text) + 2, WIDE, ('bit',), text + '#0' + ('' if '(' in opened else ','))
            self.assert_wrong_at(len(text), WIDE, ('bit',), text + '>')
            self.assert_wrong_at(len(text) + 1, WIDE, ('bit',), text + '<>')
        for text in ('<bit>' * 3990 + '#0', 'f(' * 6000 + ')' * 6000, 'f(g(), ' * 2000 + '#0' + ')' * 2000):
            self.assert_wrong_at(len(text), WIDE, ('bit',), text)
            self.assert_wrong_at(len(text), WIDE, ('bit',), text + '#')

    def test_long_texts_of_one_sign(self):
        for sign, at in (('a', 8), ('#', 1), ('<', 1), ('(', 0), (')', 0), (' ', 0), (',', 0), ('\n', 0), ('0', 0)):
            self.assert_wrong_at(at, WIDE, ('bit',), sign * 20000)

    def test_many_spoiled_texts(self):
        source = random.Random(123)
        found = {True: 0, False: 0}
        for library in some_libraries(250, 124):
            kinds = tuple(sorted([(name * (1 + at), count) for at, (name, count) in enumerate(library[0])]))
            library = (kinds, (), 0)
            input_kinds = (kinds[0][0],) * source.choice((0, 1, 3, 8, 12))
            grammar = plain_texts.Grammar(kinds, len(input_kinds))
            for _ in range(12):
                text = show_expression(some_expression(source, library, input_kinds, source.randint(1, 4)))
                text = spoiled_text(source, text) if len(text) < 90 else 'f('
                position = grammar.wrong_at(text)
                if position is None:
                    expression = read_expression(library, input_kinds, text)
                    self.assertEqual(expression, plain_texts.tree(text))
                    self.assertEqual(show_expression(expression), text)
                else:
                    with self.assertRaises(BadText) as error:
                        read_expression(library, input_kinds, text)
                    self.assertEqual(error.exception.position, position, text)
                found[position is None] += 1
        self.assertTrue(found[True] > 150 and found[False] > 1000, found)

    def test_all_short_texts(self):
        library = ((('a', 1), ('ab', 1)), (), 0)
        grammar = plain_texts.Grammar(library[0], 1)
        texts = ['']
        for _ in range(6):
            texts = [text + sign for text in texts for sign in 'ab#0<>(), ']
            right = []
            for text in texts:
                position = grammar.wrong_at(text)
                if position is None:
                    self.assertEqual(read_expression(library, ('a',), text), plain_texts.tree(text))
                else:
                    with self.assertRaises(BadText) as error:
                        read_expression(library, ('a',), text)
                    self.assertEqual(error.exception.position, position, text)
                if position is None or position == len(text):
                    right.append(text)
            # A text that is wrong already stays wrong at the same place, whatever stands behind it.
            texts = right


if __name__ == '__main__':
    unittest.main()
