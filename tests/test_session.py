import random
import unittest

from samereading import errors
from samereading.clashes import clash_size
from samereading.errors import BadCommand, BadItem, BadText, Incoherent, NoPlace, NothingToUndo, ReadingError
from samereading.library import extended, is_library
from samereading.parts import kept
from samereading.readings import kinds_of, reading_count, results
from samereading.session import Session
from samereading.texts import read_expression, show_expression, show_item, show_library
from tests import plain, plain_parts, plain_texts
from tests.samples import ADDB, ADDI, KINDS, ONES, WIDE, WIDEN, Checked, bushy, call_chain, cast_chain
from tests.small import some_busy_libraries, some_expression, some_item
from tests.test_library import many_definitions
from tests.test_texts import NO_STRINGS, SIGNS, WIDE_TEXT, spoiled_lines, spoiled_text

START = 'limit 1\nkind bit 2\nkind int 4\nimplicit widen bit int 0,1\ndefinition one - bit 1'
SHOWN = START.replace('\n', ' / ')
ADDI_LINE = show_item(ADDI)
ADDB_LINE = show_item(ADDB)

# A line of each form, on START; each of its spaces stands ahead of a part that must be there.
LINES = (
    ('add definition two - int 2', 'ok'), ('remove 0', 'implicit widen bit int 0,1'), ('undo', 'ok'), ('show', SHOWN),
    ('accepts definition one - int 1', 'yes'), ('accepts definition one - int 0', 'no'),
    ('count int bit,int one()', '1'), ('count bit - one()', '1'), ('kinds bit,int #0', 'bit,int'),
    ('kinds - one()', 'bit,int'), ('value int bit 1 #0', '1'), ('value bit - - one()', '1'),
    ('breaks definition one - int 0', '1'), ('breaks definition two - int 0', '-'),
)


class PlainSession:
    """A session by the plain definitions; an answer that is an error is a tuple (class, what it keeps)."""

    def __init__(self, library):
        self.kinds, items, self.limit = library
        self.history = [()]
        found = ()
        for item in items:
            if self.is_coherent_with(found, item):
                found += (item,)
        self.history.append(found)

    def library(self):
        return (self.kinds, self.history[-1], self.limit)

    def is_coherent_with(self, items, item):
        return plain_parts.coherent((self.kinds, items + (item,), self.limit))

    def run(self, line):
        parts = plain_texts.command_of(self.kinds, line)
        if parts is None:
            return (BadCommand, {'line': line})
        return getattr(self, 'tell_' + parts[0])(*parts[1:])

    def refusal(self, item):
        items = self.history[-1]
        if len(items) == 30 or any([plain_texts.same_identity(item, other) for other in items]):
            return (BadItem, {'item': item})
        return None

    def size_with(self, item):
        longer = (self.kinds, self.history[-1] + (item,), self.limit)
        behaviours = plain.Behaviours(longer, longer, 1000)
        return behaviours.clash_size() if behaviours.is_whole else clash_size(longer, longer)

    def tell_add(self, item):
        if self.refusal(item):
            return self.refusal(item)
        if not self.is_coherent_with(self.history[-1], item):
            return (Incoherent, {'size': self.size_with(item)})
        self.history.append(self.history[-1] + (item,))
        return 'ok'

    def tell_remove(self, place):
        items = self.history[-1]
        if place >= len(items):
            return (NoPlace, {'value': place})
        self.history.append(items[:place] + items[place + 1:])
        return show_item(items[place])

    def tell_undo(self):
        if len(self.history) == 1:
            return (NothingToUndo, {})
        self.history.pop()
        return 'ok'

    def tell_show(self):
        return ' / '.join(show_library(self.library()).split('\n'))

    def tell_accepts(self, item):
        return 'yes' if not self.refusal(item) and self.is_coherent_with(self.history[-1], item) else 'no'

    def tell_breaks(self, item):
        if self.refusal(item):
            return self.refusal(item)
        return '-' if self.is_coherent_with(self.history[-1], item) else str(self.size_with(item))

    def readings(self, input_kinds, text):
        """All readings by kind and the expression, or the error."""
        position = plain_texts.Grammar(self.kinds, len(input_kinds)).wrong_at(text)
        if position is not None:
            return (BadText, {'position': position})
        expression = plain_texts.tree(text)
        return (plain.readings_by_kind(self.library(), input_kinds, expression), expression)

    def tell_count(self, kind, input_kinds, text):
        found = self.readings(input_kinds, text)
        return found if found[0] is BadText else str(len(found[0][kind]))

    def tell_kinds(self, input_kinds, text):
        found = self.readings(input_kinds, text)
        if found[0] is BadText:
            return found
        return ','.join([kind for kind, _ in self.kinds if found[0][kind]]) or '-'

    def tell_value(self, kind, input_kinds, inputs, text):
        found = self.readings(input_kinds, text)
        if found[0] is BadText:
            return found
        values = {
            plain.value_of(self.library(), input_kinds, found[1], reading, inputs) for reading in found[0][kind]
        }
        return '%d' % values.pop() if len(values) == 1 else '-' if not values else None


class SessionTest(Checked):

    def assert_refused(self, session, error, kept_values, line):
        """The line raises the error each time, and the session stays as it was."""
        before = session.run('show')
        self.assert_error(error, kept_values, session.run, line)
        self.assertEqual(session.run('show'), before)

    def assert_no_command(self, session, line):
        self.assert_refused(session, BadCommand, {'line': line}, line)

    def assert_answer(self, session, line, answer):
        found = session.run(line)
        self.assertIs(type(found), str)
        self.assertEqual(found, answer, line)

    def undone(self, session):
        """How many changes a session takes back before there is none left; the session is used up then."""
        many = 0
        while True:
            try:
                session.run('undo')
            except NothingToUndo:
                return many
            many += 1


class NewSessionTest(SessionTest):

    def test_examples(self):
        desk = Session(START)
        for line, answer in (('value int - - one()', '1'), ('count int bit #0', '1'),
                             ('accepts definition one - int 0', 'no'), ('breaks definition one - int 0', '1')):
            self.assert_answer(desk, line, answer)
        session = Session('limit 0\nkind bit 2\ndefinition not bit bit 1,0')
        for line, answer in (('value bit bit 1 not(not(#0))', '1'), ('kinds bit no(#0)', '-'),
                             ('remove 0', 'definition not bit bit 1,0'), ('show', 'limit 0 / kind bit 2')):
            self.assert_answer(session, line, answer)
        self.assert_no_command(Session('limit 0\nkind bit 2'), 'value bit bit 2 #0')

    def test_offers_the_items_in_order(self):
        session = Session(WIDE_TEXT)
        shown = ' / '.join(WIDE_TEXT.split('\n')[:5])
        self.assert_answer(session, 'show', shown)
        turned = WIDE_TEXT.split('\n')
        turned = '\n'.join(turned[:3] + turned[:2:-1])
        self.assert_answer(Session(turned), 'show', ' / '.join(turned.split('\n')[:5]))
        for library in some_busy_libraries(60, 131):
            places = kept(library, range(len(library[1])))
            expected = (library[0], tuple([library[1][at] for at in places]), library[2])
            self.assert_answer(Session(show_library(library)), 'show', show_library(expected).replace('\n', ' / '))

    def test_the_offer_is_one_change(self):
        for text in (START, WIDE_TEXT, 'limit 3\nkind bit 2', 'limit 0\nkind a 1\nkind b 1'):
            session = Session(text)
            self.assert_answer(session, 'undo', 'ok')
            kinds = [line for line in text.split('\n') if line.startswith(('limit', 'kind'))]
            self.assert_answer(session, 'show', ' / '.join(kinds))
            self.assert_refused(session, NothingToUndo, {}, 'undo')

    def test_wrong_texts(self):
        for value in NO_STRINGS:
            self.assert_error(BadText, {'position': 0}, Session, value)
        for text, position in (('', 0), ('limit 1', 1), ('limit 5\nkind a 1', 0), ('limit 1\nkind a 9', 1),
                               (START + '\n', 5), (START + '\nkind z 1', 5), (START + '\ndefinition one - bit 0', 5),
                               (' ' + START, 0), (SHOWN, 0)):
            self.assert_error(BadText, {'position': position}, Session, text)

    def test_many_spoiled_texts(self):
        source = random.Random(132)
        for library in some_busy_libraries(100, 133):
            for change in (spoiled_text, spoiled_lines):
                text = change(source, show_library(library))
                expected = plain_texts.library_of(text)
                if type(expected) is tuple:
                    self.assertIs(type(Session(text)), Session)
                else:
                    self.assert_error(BadText, {'position': expected}, Session, text)

    def test_sessions_are_independent(self):
        first, second = Session(START), Session(START)
        first.run('remove 0')
        self.assert_answer(second, 'show', SHOWN)
        second.run('undo')
        self.assert_answer(first, 'show', 'limit 1 / kind bit 2 / kind int 4 / definition one - bit 1')

    def test_by_name(self):
        self.assertEqual(Session(text=START).run(line='show'), SHOWN)


class CommandTest(SessionTest):

    def test_each_form(self):
        for line, answer in LINES:
            self.assert_answer(Session(START), line, answer)

    def test_a_word_out_or_twice(self):
        session = Session(START)
        for line, _ in LINES:
            words = line.split(' ')
            for at in range(len(words)):
                for other in (words[:at] + words[at + 1:], words[:at + 1] + words[at:]):
                    self.assert_as_plain(session, ' '.join(other))

    def assert_as_plain(self, session, line):
        """The line is no command, or it is one as the plain definitions tell."""
        if plain_texts.command_of(KINDS, line) is None:
            self.assert_no_command(session, line)
        else:
            expected = PlainSession(plain_texts.library_of(START)).run(line)
            again = Session(START)
            if type(expected) is tuple:
                self.assert_refused(again, expected[0], expected[1], line)
            else:
                self.assert_answer(again, line, expected)

    def test_further_spaces(self):
        session = Session(START)
        for line, _ in LINES:
            for at in range(len(line) + 1):
                self.assert_as_plain(session, line[:at] + ' ' + line[at:])
            words = line.split(' ')
            for at in range(1, len(words)):
                other = ' '.join(words[:at]) + '  ' + ' '.join(words[at:])
                behind = {'count': 3, 'kinds': 2, 'value': 4}.get(words[0])
                if at == behind:
                    self.assert_refused(session, BadText, {'position': 0}, other)
                else:
                    self.assert_no_command(session, other)
            self.assert_no_command(session, ' ' + line)
            if words[0] not in ('count', 'kinds', 'value'):
                self.assert_no_command(session, line + ' ')
                self.assert_no_command(session, line + '\n')
            for sign in ('\t', '\n', '\u00a0', '  ', '\r', ','):
                if len(words) > 1:
                    self.assert_no_command(session, line.replace(' ', sign))

    def test_each_sign_at_each_place(self):
        session = Session(START)
        for line, _ in LINES:
            for at in range(len(line) + 1):
                for sign in SIGNS:
                    self.assert_as_plain(session, line[:at] + sign + line[at:])
                    self.assert_as_plain(session, line[:at] + sign + line[at + 1:])

    def test_what_is_no_string(self):
        session = Session(START)
        for value in NO_STRINGS:
            self.assert_no_command(session, value)

    def test_other_words(self):
        session = Session(START)
        for line in ('', ' ', '\n', '-', 'help', 'Add', 'ADD definition two - int 2', 'adds', 'SHOW', 'Show', 'shows',
                     'show\n', 'undo\n', 'undo 1', 'undo undo', 'show -', 'show show', '\tshow', 'remove', 'add',
                     'accepts', 'breaks', 'count', 'kinds', 'value', 'offer', 'copy', 'limit 1', 'kind bit 2', START,
                     ADDI_LINE, 'add ' + SHOWN, 'run show', 'library', 'changes', 'x' * 20000, ' ' * 20000):
            self.assert_no_command(session, line)

    def test_numbers_of_places(self):
        library = (KINDS, many_definitions(30), 1)
        session = Session(show_library(library))
        for place in (0, 9, 10, 29):
            again = Session(show_library(library))
            self.assert_answer(again, f'remove {place}', show_item(library[1][place]))
        for word in ('30', '31', '99', '100', '999', '1000', '9999'):
            self.assert_refused(session, NoPlace, {'value': int(word)}, 'remove ' + word)
        for word in ('10000', '99999', '00', '01', '000', '0000', '00000', '0001', '', '-', '-1', '-0', '+1', ' 1',
                     '1 ', '1,2', '1.', '1.0', 'a', '0x1', '1_0', '\u0661', '\uff11', '\u00b2', '\u0967', '1\n',
                     'True', 'None', '#1', '1' * 5000, '1 2'):
            self.assert_no_command(session, 'remove ' + word)

    def test_items_in_lines(self):
        session = Session(START)
        for word in ('add', 'accepts', 'breaks'):
            for item in ('', ' ', '-', 'one', 'definition', 'definition two - int', 'definition two - int 4',
                         'definition two - word 0', 'definition two  int 0', 'definition two - int 00',
                         'definition two - int -0', 'definition two - int 0,0', 'definition two bit int 0',
                         'implicit more bit bit 0,1', 'implicit more bit int 0', 'implicit abcdefghi bit int 0,1',
                         'definition two - int 0\n', 'definition two - int 0 ', ' definition two - int 0', 'limit 1',
                         'kind word 2', 'definition two int,int,int bit ' + '0,' * 63 + '0,0',
                         'definition two - int \u0661'):
                self.assert_no_command(session, f'{word} {item}')

    def test_inputs_in_lines(self):
        session = Session(START)
        eight, nine = ','.join(['bit'] * 8), ','.join(['bit'] * 9)
        values = ','.join(['1'] * 8)
        for line, answer in ((f'kinds {eight} #7', 'bit,int'), (f'count int {eight} #7', '1'),
                             (f'value int {eight} {values} #7', '1'), ('kinds - #0', None)):
            if answer is None:
                self.assert_refused(session, BadText, {'position': 0}, line)
            else:
                self.assert_answer(session, line, answer)
        for inputs in (nine, '', ',', 'bit,', ',bit', 'bit,,bit', '-,bit', 'bit,-', '--', 'word', 'bit,word',
                       'bit;int', 'Bit', 'bi', 'bits', 'bit, int', '0', '()', "('bit',)", 'bit\n', '\nbit', 'bit\t'):
            self.assert_no_command(session, f'kinds {inputs} one()')
            self.assert_no_command(session, f'count int {inputs} one()')
            self.assert_no_command(session, f'value int {inputs} 1 one()')
        for kind in ('', '-', 'word', 'bi', 'bits', 'bit,int', 'Bit', '0', 'bit\n', 'int,'):
            self.assert_no_command(session, f'count {kind} bit #0')
            self.assert_no_command(session, f'value {kind} bit 1 #0')

    def test_values_in_lines(self):
        session = Session(START)
        for inputs, values in (('bit', '0'), ('bit', '1'), ('int', '3'), ('bit,int', '1,3'), ('-', '-')):
            self.assert_answer(session, f'value bit {inputs} {values} one()', '1')
        rows = (('bit', '2'), ('bit', '-1'), ('bit', '+1'), ('bit', '01'), ('bit', '00'), ('bit', ''), ('bit', '-'),
                ('bit', '1,'), ('bit', ',1'), ('bit', '1,1'), ('bit', '1.'), ('bit', '\u0661'), ('bit', '\uff11'),
                ('bit', 'a'), ('bit', '1\n'), ('bit', '10'), ('int', '4'), ('int', '7'), ('int', '9'), ('int', '12'),
                ('bit,int', '3,1'), ('bit,int', '1'), ('bit,int', '1,4'), ('bit,int', '1,'), ('bit,int', '1, 1'),
                ('bit,int', '1,1,1'), ('bit,int', '-'), ('-', '0'), ('-', ''), ('-', '--'), ('-', '-,-'), ('-', ','),
                ('bit', 'True'), ('bit', '1' * 5000))
        for inputs, values in rows:
            self.assert_no_command(session, f'value bit {inputs} {values} one()')

    def test_empty_expressions(self):
        session = Session(START)
        for line in ('count int bit', 'kinds bit', 'value int bit 1', 'count int -', 'kinds -', 'value int - -'):
            self.assert_no_command(session, line)
            self.assert_refused(session, BadText, {'position': 0}, line + ' ')
            self.assert_refused(session, BadText, {'position': 0}, line + '  ')
            self.assert_refused(session, BadText, {'position': 0}, line + ' \n')

    def test_positions_are_counted_in_the_expression(self):
        session = Session(START)
        for start in ('count int bit ', 'kinds bit,int ', 'value int bit,int 1,3 '):
            for text, position in ((' #0', 0), ('#0 ', 2), ('#', 1), ('f(#0,#1)', 5), ('f(#9)', 3), ('<word>#0', 1),
                                   ('f(', 2), ('one() one()', 5), ('one()\n', 5), ('abcdefghi()', 8), ('<bit> #0', 5),
                                   ('-', 0), ('f(<bit>' * 2000, 14000), ('f(' * 26 + ')' * 26, 78), ('#\u0661', 1),
                                   ('\x00', 0)):
                self.assert_refused(session, BadText, {'position': position}, start + text)

    def test_sizes_of_expressions(self):
        session = Session(START)
        for expression in (bushy(199), bushy(200), cast_chain(24), cast_chain(25), call_chain(25)):
            text = show_expression(expression)
            library = plain_texts.library_of(START)
            expected = str(reading_count(library, ('bit',), expression, 'int'))
            self.assert_answer(session, 'count int bit ' + text, expected)
        for expression in (bushy(201), cast_chain(26), call_chain(26), bushy(1000)):
            text = show_expression(expression)
            for start in ('count int bit ', 'kinds bit ', 'value int bit 1 '):
                self.assert_refused(session, BadText, {'position': len(text)}, start + text)

    def test_a_wrong_line_is_told_ahead_of_a_wrong_expression(self):
        session = Session(START)
        for line in ('count word bit (', 'kinds word (', 'value int bit 2 (', 'value int word 1 (', 'count int bit( ('):
            self.assert_no_command(session, line)

    def test_line_feeds_in_expressions(self):
        session = Session(START)
        self.assert_refused(session, BadText, {'position': 4}, 'kinds bit f(#0\n)')
        self.assert_refused(session, BadText, {'position': 0}, 'kinds bit \n')
        self.assert_no_command(session, 'kinds bit\n#0')
        self.assert_no_command(session, 'kinds\nbit #0')


class AnswerTest(SessionTest):

    def test_add(self):
        session = Session(START)
        self.assert_answer(session, 'add ' + ADDI_LINE, 'ok')
        self.assert_answer(session, 'show', SHOWN + ' / ' + ADDI_LINE)
        self.assert_refused(session, BadItem, {'item': ADDI}, 'add ' + ADDI_LINE)
        self.assert_refused(session, Incoherent, {'size': 3}, 'add ' + ADDB_LINE)
        self.assert_answer(session, 'undo', 'ok')
        self.assert_answer(session, 'add ' + ADDB_LINE, 'ok')
        self.assert_answer(session, 'show', SHOWN + ' / ' + ADDB_LINE)

    def test_an_item_that_is_there_already(self):
        session = Session(START)
        for item in (WIDEN, ONES[1]):
            line = show_item(item)
            self.assert_answer(session, 'accepts ' + line, 'no')
            self.assert_refused(session, BadItem, {'item': item}, 'breaks ' + line)
            self.assert_refused(session, BadItem, {'item': item}, 'add ' + line)
        for item in (('conversion', 'widen', 'int', 'bit', False, (0,) * 4), ('definition', 'one', (), 'bit', (0,))):
            line = show_item(item)
            self.assert_answer(session, 'accepts ' + line, 'no')
            self.assert_refused(session, BadItem, {'item': item}, 'breaks ' + line)
            self.assert_refused(session, BadItem, {'item': item}, 'add ' + line)

    def test_thirty_items(self):
        items = many_definitions(31)
        session = Session(show_library((KINDS, items[:30], 1)))
        line = show_item(items[30])
        self.assert_answer(session, 'accepts ' + line, 'no')
        self.assert_refused(session, BadItem, {'item': items[30]}, 'breaks ' + line)
        self.assert_refused(session, BadItem, {'item': items[30]}, 'add ' + line)
        session.run('remove 4')
        self.assert_answer(session, 'accepts ' + line, 'yes')
        self.assert_answer(session, 'breaks ' + line, '-')
        self.assert_answer(session, 'add ' + line, 'ok')
        self.assert_error(BadText, {'position': 33}, Session, show_library((KINDS, items, 1)))

    def test_remove_and_undo(self):
        session = Session(START)
        self.assert_answer(session, 'remove 1', 'definition one - bit 1')
        self.assert_answer(session, 'remove 0', 'implicit widen bit int 0,1')
        self.assert_refused(session, NoPlace, {'value': 0}, 'remove 0')
        self.assert_answer(session, 'show', 'limit 1 / kind bit 2 / kind int 4')
        self.assert_answer(session, 'undo', 'ok')
        self.assert_answer(session, 'undo', 'ok')
        self.assert_answer(session, 'show', SHOWN)
        self.assertEqual(self.undone(session), 1)

    def test_only_changes_are_changes(self):
        session = Session(START)
        for line, _ in LINES:
            if not line.startswith(('add', 'remove', 'undo')):
                session.run(line)
        for line in ('add ' + show_item(WIDEN), 'add definition one - int 0', 'remove 7', 'kinds - (', 'nothing'):
            self.assertRaises(ReadingError, session.run, line)
        self.assertEqual(self.undone(session), 1)

    def test_accepts_and_breaks(self):
        session = Session(START + '\n' + ADDI_LINE)
        for item, size in ((ADDB, 3), (('definition', 'one', (), 'int', (3,)), 1), (ONES[0], None),
                           (('conversion', 'wider', 'bit', 'int', True, (0, 3)), 1),
                           (('conversion', 'wider', 'bit', 'int', False, (0, 3)), 2),
                           (('conversion', 'narrow', 'int', 'bit', False, (0, 1, 0, 1)), None)):
            self.assert_answer(session, 'accepts ' + show_item(item), 'yes' if size is None else 'no')
            self.assert_answer(session, 'breaks ' + show_item(item), '-' if size is None else str(size))
            if size is not None:
                self.assert_refused(session, Incoherent, {'size': size}, 'add ' + show_item(item))

    def test_an_expression_without_a_reading(self):
        session = Session(START)
        for text in ('no()', 'one(#0)', 'add(#0, #0)', '<bit>#1', 'one(one())', '<bit>no()'):
            self.assert_answer(session, 'kinds bit,int ' + text, '-')
            for kind in ('bit', 'int'):
                self.assert_answer(session, f'count {kind} bit,int {text}', '0')
                self.assert_answer(session, f'value {kind} bit,int 1,3 {text}', '-')
        self.assert_answer(session, 'count bit int #0', '0')
        self.assert_answer(session, 'value bit int 3 #0', '-')
        self.assert_answer(session, 'kinds int #0', 'int')

    def test_values_and_counts(self):
        session = Session(WIDE_TEXT)
        for first in range(2):
            for second in range(4):
                line = f'value int bit,int {first},{second} add(#0, #1)'
                self.assert_answer(session, line, str((first + second) % 4))
        self.assert_answer(session, 'count int bit,bit add(#0, <int>#1)', '1')
        self.assert_answer(session, 'kinds bit,bit add(#0, #1)', 'int')

    def test_counts_that_are_more_than_can_be_listed(self):
        # Two conversions lead to the kind in which the result is asked for; below there is one way alone.
        ternary = 'limit 1\nkind a 1\nkind b 1\nimplicit x a b 0\nimplicit y a b 0\ndefinition f a,a,a a 0'
        text = show_expression(bushy(199))
        library = plain_texts.library_of(ternary)
        expression = read_expression(library, ('a',), text)
        self.assert_answer(Session(ternary), 'count b a ' + text,
                           str(reading_count(library, ('a',), expression, 'b')))
        ways = (('x', 'a b'), ('y', 'b a'))
        lines = [f'explicit {start}{sign} {kinds} 0' for start, kinds in ways for sign in 'abcdefghij']
        session = Session('\n'.join(['limit 4', 'kind a 1', 'kind b 1'] + lines))
        self.assert_answer(session, 'count b a ' + '<b><a>' * 11 + '<b>#0', str(self.readings_of_casts(23)))

    def readings_of_casts(self, casts):
        """The readings of kind b of casts to b and to a by turns, above an input of kind a."""
        counts = {'a': 1, 'b': 0}
        for number in range(casts):
            kind, other = ('b', 'a') if number % 2 == 0 else ('a', 'b')
            counts = {kind: counts[kind] + 10 * counts[other], other: 0}
        return counts['b']


class ManyLinesTest(SessionTest):

    def some_line(self, source, library):
        kinds = library[0]
        counts = dict(kinds)
        words = ('add', 'add', 'add', 'remove', 'undo', 'show', 'accepts', 'count', 'kinds', 'value', 'breaks')
        word = source.choice(words)
        if word in ('add', 'accepts', 'breaks'):
            return f'{word} {show_item(some_item(source, kinds, source.randrange(16)))}'
        if word == 'remove':
            return f'remove {source.randint(0, len(library[1]))}'
        if word in ('undo', 'show'):
            return word
        input_kinds = tuple([source.choice(kinds)[0] for _ in range(source.randint(0, 3))])
        values = [str(source.randrange(counts[kind])) for kind in input_kinds]
        text = show_expression(some_expression(source, library, input_kinds, source.randint(1, 3)))
        parts = [word] + ([source.choice(kinds)[0]] if word != 'kinds' else []) + [','.join(input_kinds) or '-']
        return ' '.join(parts + ([','.join(values) or '-'] if word == 'value' else []) + [text])

    def assert_as_plain(self, session, plainly, line):
        expected = plainly.run(line)
        if type(expected) is str:
            self.assert_answer(session, line, expected)
            return expected
        with self.assertRaises(expected[0]) as found:
            session.run(line)
        self.assertEqual((type(found.exception), vars(found.exception)), expected, line)
        return expected[0]

    def test_many_lines(self):
        source = random.Random(134)
        found = {}
        for library in some_busy_libraries(60, 135, 6):
            session = Session(show_library(library))
            plainly = PlainSession(library)
            for _ in range(25):
                line = self.some_line(source, plainly.library())
                if source.random() < 0.25:
                    line = spoiled_text(source, line)
                answer = self.assert_as_plain(session, plainly, line)
                found[answer] = found.get(answer, 0) + 1
                self.assertEqual(session.run('show'), plainly.run('show'))
            self.assertEqual(self.undone(session), len(plainly.history) - 1)
        for answer in ('ok', 'yes', 'no', '-', '1', '0', BadCommand, BadText, BadItem, Incoherent, NoPlace):
            self.assertGreater(found.get(answer, 0), 5, answer)

    def test_answers_are_those_of_the_functions(self):
        source = random.Random(136)
        valued = 0
        for library in some_busy_libraries(150, 137):
            session = Session(show_library(library))
            library = plain_texts.library_of(session.run('show').replace(' / ', '\n'))
            input_kinds = tuple([source.choice(library[0])[0] for _ in range(source.randint(0, 4))])
            inputs = tuple([source.randrange(dict(library[0])[kind]) for kind in input_kinds])
            names, values = ','.join(input_kinds) or '-', ','.join([str(value) for value in inputs]) or '-'
            for _ in range(5):
                expression = some_expression(source, library, input_kinds, source.randint(1, 5))
                text = show_expression(expression)
                told = kinds_of(library, input_kinds, expression)
                self.assert_answer(session, f'kinds {names} {text}', ','.join(told) or '-')
                for kind, _ in library[0]:
                    many = reading_count(library, input_kinds, expression, kind)
                    self.assert_answer(session, f'count {kind} {names} {text}', str(many))
                    found = results(library, input_kinds, expression, kind, inputs)
                    self.assertLessEqual(len(found), 1)
                    self.assert_answer(session, f'value {kind} {names} {values} {text}',
                                       str(found[0]) if found else '-')
                    valued += len(found)
            for number in range(3):
                item = some_item(source, library[0], number + 9)
                longer = (library[0], library[1] + (item,), library[2])
                if is_library(longer):
                    size = clash_size(extended(library, item), longer)
                    self.assert_answer(session, 'breaks ' + show_item(item), '-' if size is None else str(size))
                    self.assert_answer(session, 'accepts ' + show_item(item), 'yes' if size is None else 'no')
        self.assertGreater(valued, 500)

    def test_a_session_read_from_what_another_one_shows_goes_on_like_it(self):
        source = random.Random(138)
        for library in some_busy_libraries(60, 139):
            session = Session(show_library(library))
            for _ in range(8):
                self.answer_or_error(session, self.some_line(source, library))
            again = Session(session.run('show').replace(' / ', '\n'))
            for _ in range(12):
                line = self.some_line(source, library)
                if line != 'undo':
                    self.assertEqual(self.answer_or_error(session, line), self.answer_or_error(again, line))
                    self.assertEqual(session.run('show'), again.run('show'))

    def answer_or_error(self, session, line):
        try:
            return session.run(line)
        except ReadingError as error:
            return (type(error), vars(error))

    def test_all_errors_are_those_of_the_package(self):
        source = random.Random(140)
        session = Session(WIDE_TEXT)
        for _ in range(1500):
            line = spoiled_text(source, spoiled_text(source, self.some_line(source, WIDE)))
            answer = self.answer_or_error(session, line)
            if type(answer) is tuple:
                self.assertIs(answer[0], getattr(errors, answer[0].__name__))


if __name__ == '__main__':
    unittest.main()
