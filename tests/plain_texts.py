"""Sections 13 and 14 in another form: lines by patterns, and expressions by all prefixes of their texts."""

import math
import re

NAME = '[a-z]{1,8}'
VALUES = '[0-7](?:,[0-7])*'
CONVERSION = re.compile(f'(implicit|explicit) ({NAME}) ({NAME}) ({NAME}) ({VALUES})')
DEFINITION = re.compile(f'definition ({NAME}) (-|{NAME}(?:,{NAME})*) ({NAME}) ({VALUES})')


def numbers(text):
    return tuple([int(word) for word in text.split(',')])


def names(text):
    return () if text == '-' else tuple(text.split(','))


def item_of(kinds, line):
    """The item that a line writes, or None."""
    counts = dict(kinds)
    found = CONVERSION.fullmatch(line)
    if found:
        word, name, source, target, values = found.groups()
        table = numbers(values)
        if source not in counts or target not in counts or source == target:
            return None
        if len(table) != counts[source] or max(table) >= counts[target]:
            return None
        return ('conversion', name, source, target, word == 'implicit', table)
    found = DEFINITION.fullmatch(line)
    if not found:
        return None
    operator, words, result, values = found.groups()
    parameters = names(words)
    table = numbers(values)
    if len(parameters) > 3 or not set(parameters + (result,)) <= set(counts):
        return None
    length = math.prod([counts[parameter] for parameter in parameters])
    if length > 64 or len(table) != length or max(table) >= counts[result]:
        return None
    return ('definition', operator, parameters, result, table)


def same_identity(item, other):
    return item[0] == other[0] and item[1] == other[1] and (item[0] == 'conversion' or item[2:4] == other[2:4])


def library_of(text):
    """The library that a text writes, or the number of the line at which it goes wrong."""
    lines = text.split('\n')
    if not re.fullmatch('limit [0-4]', lines[0]):
        return 0
    kinds, items = [], []
    for number, line in enumerate(lines):
        kind = re.fullmatch(f'kind ({NAME}) ([1-8])', line)
        item = item_of(kinds, line)
        if number == 0:
            continue
        if kind and not items and len(kinds) < 6 and (not kinds or kinds[-1][0] < kind[1]):
            kinds.append((kind[1], int(kind[2])))
        elif item and len(items) < 30 and not any([same_identity(item, other) for other in items]):
            items.append(item)
        else:
            return number
    return (tuple(kinds), tuple(items), int(lines[0][-1])) if kinds else len(lines)


class Grammar:
    """The texts of expressions for some kinds and a number of inputs, of whatever size."""

    def __init__(self, kinds, many):
        self.heads = [f'<{name}>' for name, _ in kinds]
        self.inputs = [f'#{number}' for number in range(many)]

    def expression(self, text, at):
        """Where an expression that begins at a place of the text can end, and whether it can go on behind the text."""
        ends, goes_on = set(), at == len(text)
        for word in self.inputs:
            if text.startswith(word, at):
                ends.add(at + len(word))
            goes_on |= word != text[at:] and word.startswith(text[at:])
        for word in self.heads:
            if text.startswith(word, at):
                inner, inner_goes_on = self.expression(text, at + len(word))
                ends |= inner
                goes_on |= inner_goes_on
            goes_on |= word.startswith(text[at:])
        name = re.compile(NAME).match(text, at)
        if name:
            goes_on |= name.end() == len(text)
            if text.startswith('(', name.end()):
                inner, inner_goes_on = self.arguments(text, name.end() + 1)
                ends |= inner
                goes_on |= inner_goes_on
        return ends, goes_on

    def arguments(self, text, at):
        ends = {at + 1} if text.startswith(')', at) else set()
        goes_on = at == len(text)
        starts = {at}
        for many in (1, 2, 3):
            stops = set()
            for start in starts:
                inner, inner_goes_on = self.expression(text, start)
                stops |= inner
                goes_on |= inner_goes_on
            ends |= {stop + 1 for stop in stops if text.startswith(')', stop)}
            goes_on |= any([text[stop:] in (('', ',') if many < 3 else ('',)) for stop in stops])
            starts = {stop + 2 for stop in stops if text.startswith(', ', stop)} if many < 3 else set()
        return ends, goes_on

    def begins(self, text):
        """Whether the text of an expression begins with a text."""
        ends, goes_on = self.expression(text, 0)
        return goes_on or len(text) in ends

    def wrong_at(self, text):
        """The position at which a text goes wrong, or None; sizes are not looked at."""
        for at in range(len(text)):
            if not self.begins(text[:at + 1]):
                return at
        return None if len(text) in self.expression(text, 0)[0] else len(text)


def split_arguments(text):
    """The parts of a text between the commas that stand in no further brackets."""
    if not text:
        return []
    found, depth = [''], 0
    for sign in text:
        depth += (sign == '(') - (sign == ')')
        if sign == ',' and depth == 0:
            found.append('')
        else:
            found[-1] += sign
    return found[:1] + [word[1:] for word in found[1:]]


def tree(text):
    """The expression that a right text writes."""
    if text[0] == '#':
        return ('input', int(text[1:]))
    if text[0] == '<':
        kind, rest = text[1:].split('>', 1)
        return ('cast', kind, tree(rest))
    name, rest = text.split('(', 1)
    return ('call', name, tuple([tree(word) for word in split_arguments(rest[:-1])]))


def written(expression):
    """The text of an expression."""
    if expression[0] == 'input':
        return '#%d' % expression[1]
    if expression[0] == 'cast':
        return '<%s>%s' % (expression[1], written(expression[2]))
    return '%s(%s)' % (expression[1], ', '.join([written(inner) for inner in expression[2]]))


def command_of(kinds, line):
    """The parts of a line of section 14, the first word first, or None."""
    if not isinstance(line, str):
        return None
    name = '(?:' + '|'.join([name for name, _ in kinds]) + ')'
    inputs = f'(-|{name}(?:,{name}){{0,7}})'
    patterns = (
        '(add|accepts|breaks) (.*)', '(remove) (0|[1-9][0-9]{0,3})', '(undo|show)', f'(count) ({name}) {inputs} (.*)',
        f'(kinds) {inputs} (.*)', f'(value) ({name}) {inputs} (-|{VALUES}) (.*)',
    )
    for pattern in patterns:
        found = re.fullmatch(pattern, line, re.DOTALL)
        if found:
            return finished(kinds, *found.groups())
    return None


def finished(kinds, word, *parts):
    if word in ('add', 'accepts', 'breaks'):
        item = item_of(kinds, parts[0])
        return item and (word, item)
    if word == 'remove':
        return (word, int(parts[0]))
    if word == 'count':
        return (word, parts[0], names(parts[1]), parts[2])
    if word == 'kinds':
        return (word, names(parts[0]), parts[1])
    if word == 'value':
        input_kinds = names(parts[1])
        values = () if parts[2] == '-' else numbers(parts[2])
        ranges = [range(dict(kinds)[kind]) for kind in input_kinds]
        if len(values) != len(ranges) or not all([value in row for value, row in zip(values, ranges)]):
            return None
        return (word, parts[0], input_kinds, values, parts[3])
    return (word,)
