"""The classes of surekeys.faults."""

import unittest

from surekeys import errors, faults

NAMES = ['InvalidRows', 'InvalidWorths', 'InvalidHeld', 'InvalidChanges', 'NotAPaper']


class FaultsTest(unittest.TestCase):

    def test_direct_subclasses(self):
        for name in NAMES:
            self.assertEqual(getattr(faults, name).__bases__, (errors.KeyRuleError,), name)

    def test_all_defined_here(self):
        for name in NAMES:
            self.assertEqual(getattr(faults, name).__module__, 'surekeys.faults')
            self.assertEqual(getattr(faults, name).__name__, name)

    def test_message(self):
        for name in NAMES:
            error = getattr(faults, name)('words')
            self.assertIsInstance(error, ValueError)
            self.assertEqual(str(error), 'words')

    def test_raised_and_caught(self):
        for name in NAMES:
            with self.assertRaises(errors.KeyRuleError) as caught:
                raise getattr(faults, name)('words')
            self.assertIs(type(caught.exception), getattr(faults, name))


if __name__ == '__main__':
    unittest.main()
