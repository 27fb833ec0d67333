"""What several test files assert."""

import unittest

from variations import Unchanged, shape

from backasked.errors import LimitExceeded


class LimitCase(unittest.TestCase):
    def assert_limit(self, call, *arguments, **more):
        """The call meets its limit, 300 where none is told, and changes nothing."""
        with Unchanged(self, *arguments), self.assertRaises(LimitExceeded) as caught:
            call(*arguments, **more)
        self.assertEqual(shape(caught.exception.limit), shape(more.get("tries", 300)))
