"""What several test files assert."""

import unittest


class Asserts(unittest.TestCase):
    def assert_refused(self, kind, attributes, call, *args, **named):
        """The call raises an error of exactly this class, with exactly these attributes."""
        with self.assertRaises(kind) as caught:
            call(*args, **named)
        self.assertIs(type(caught.exception), kind)
        held = vars(caught.exception)
        self.assertEqual(list(held), list(attributes))
        for name, value in attributes.items():
            self.assertIs(type(held[name]), type(value))
            # Values that are nested deep cannot be compared, but they are kept as they were passed.
            self.assertTrue(held[name] is value or held[name] == value, name)

    def assert_new_list(self, call):
        """Two calls return equal lists, and changing the first one leaves the second as it is."""
        first = call()
        self.assertIs(type(first), list)
        wanted = list(first)
        first.append("more")
        first.reverse()
        self.assertEqual(call(), wanted)
