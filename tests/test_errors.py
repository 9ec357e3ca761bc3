"""The classes of surekeys.errors."""

import unittest

from surekeys import errors

WITH_MESSAGE = [
    'InvalidColumns', 'InvalidRow', 'InvalidTable', 'InvalidSet', 'InvalidDemand', 'InvalidRules', 'InvalidKind',
    'InvalidNumber', 'InvalidWorld', 'InvalidEntry', 'InvalidValue', 'NotACertificate',
]
WITH_ATTRIBUTE = [('InvalidMark', 'number'), ('Full', 'limit'), ('Impossible', 'tree')]


class ErrorsTest(unittest.TestCase):

    def test_root(self):
        self.assertEqual(errors.KeyRuleError.__bases__, (ValueError,))
        self.assertEqual(str(errors.KeyRuleError('words')), 'words')

    def test_direct_subclasses(self):
        for name in WITH_MESSAGE + [name for name, _ in WITH_ATTRIBUTE]:
            self.assertEqual(getattr(errors, name).__bases__, (errors.KeyRuleError,), name)

    def test_all_defined_here(self):
        for name in ['KeyRuleError'] + WITH_MESSAGE + [name for name, _ in WITH_ATTRIBUTE]:
            self.assertEqual(getattr(errors, name).__module__, 'surekeys.errors')
            self.assertEqual(getattr(errors, name).__name__, name)

    def test_message(self):
        for name in WITH_MESSAGE:
            error = getattr(errors, name)('words')
            self.assertIsInstance(error, ValueError)
            self.assertEqual(str(error), 'words')

    def test_attribute_keeps_any_value(self):
        values = [0, 6, -1, 10 ** 30, True, False, None, '', 'no', (), (1, (2, None)), ('twins', 0, 1, 0), ((), [()])]
        for name, attribute in WITH_ATTRIBUTE:
            for value in values:
                kept = getattr(getattr(errors, name)(value), attribute)
                self.assertIs(kept, value, name)

    def test_attribute_keeps_the_very_list(self):
        for name, attribute in WITH_ATTRIBUTE:
            value = [1, [2]]
            self.assertIs(getattr(getattr(errors, name)(value), attribute), value)
            self.assertEqual(value, [1, [2]])

    def test_raised_and_caught(self):
        for name, attribute in WITH_ATTRIBUTE:
            with self.assertRaises(errors.KeyRuleError) as caught:
                raise getattr(errors, name)(6)
            self.assertEqual(getattr(caught.exception, attribute), 6)

    def test_one_argument(self):
        for name, _ in WITH_ATTRIBUTE:
            self.assertRaises(TypeError, getattr(errors, name))
            self.assertRaises(TypeError, getattr(errors, name), 1, 2)


if __name__ == '__main__':
    unittest.main()
