"""What the tests of refusals ask."""

import unittest


class RefusalTests(unittest.TestCase):
    """Tests that ask for an error of exactly this class with this field."""

    def refused(self, error, field, function, *arguments):
        with self.assertRaises(error) as caught:
            function(*arguments)
        self.assertEqual((type(caught.exception), *vars(caught.exception).values()), (error, field))
