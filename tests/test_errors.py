import unittest

from samereading import errors
from tests.samples import ADDI, WIDE, WRONG_WHOLE

WITH_ARGUMENT = (
    ('NoNumber', 'value'), ('BadItem', 'item'), ('TooLarge', 'size'), ('TooMany', 'count'), ('BadKinds', 'value'),
    ('BadLimit', 'value'), ('Incoherent', 'size'), ('NoPlace', 'value'), ('BadText', 'position'),
    ('BadCommand', 'line'),
)
WITHOUT_ARGUMENT = ('DifferentKinds', 'NothingToUndo')
ALL = WITHOUT_ARGUMENT + tuple([name for name, _ in WITH_ARGUMENT])


def very_deep():
    value = ()
    for _ in range(5000):
        value = (value,)
    return value


class ErrorsTest(unittest.TestCase):

    def test_base_derives_directly_from_value_error(self):
        self.assertEqual(errors.ReadingError.__bases__, (ValueError,))

    def test_all_derive_directly_from_the_base(self):
        for name in ALL:
            self.assertEqual(getattr(errors, name).__bases__, (errors.ReadingError,), name)

    def test_each_is_a_class_of_its_own(self):
        self.assertEqual(len({getattr(errors, name) for name in ALL}), 12)

    def test_each_is_defined_in_errors(self):
        for name in ALL + ('ReadingError',):
            self.assertEqual(getattr(errors, name).__module__, 'samereading.errors')
            self.assertEqual(getattr(errors, name).__name__, name)

    def test_argument_is_kept_by_position_and_by_keyword(self):
        values = WRONG_WHOLE + (7, WIDE, ADDI, 'x' * 20000, 10 ** 40, very_deep())
        for name, attribute in WITH_ARGUMENT:
            for value in values:
                self.assertIs(getattr(getattr(errors, name)(value), attribute), value)
                self.assertIs(getattr(getattr(errors, name)(**{attribute: value}), attribute), value)

    def test_raised_and_caught_by_each_name(self):
        for name, attribute in WITH_ARGUMENT:
            error = getattr(errors, name)
            for caught in (error, errors.ReadingError, ValueError):
                with self.assertRaises(caught) as found:
                    raise error((1, [2]))
                self.assertEqual(getattr(found.exception, attribute), (1, [2]))
        for name in WITHOUT_ARGUMENT:
            for caught in (getattr(errors, name), errors.ReadingError, ValueError):
                with self.assertRaises(caught):
                    raise getattr(errors, name)()

    def test_argument_is_not_changed(self):
        value = [1, {'a': [2]}]
        for name, attribute in WITH_ARGUMENT:
            getattr(errors, name)(value)
            getattr(errors, name)(**{attribute: value})
        self.assertEqual(value, [1, {'a': [2]}])


if __name__ == '__main__':
    unittest.main()
