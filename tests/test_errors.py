import unittest

from helper import REFUSALS, Refusing
from modehand import errors
from modehand.errors import ModeError, NoState


class Errors(Refusing, unittest.TestCase):
    def made(self, refusal):
        return refusal(None) if refusal is NoState else refusal("words")

    def raised(self, error):
        raise error

    def test_eleven_refusals_under_their_names(self):
        names = [refusal.__name__ for refusal in REFUSALS]
        self.assertEqual(names, [
            "NoPlace", "NoRow", "NoFit", "NoState", "NoPhrase", "NoPattern",
            "NoLine", "TooLong", "NoWords", "NoDeed", "NoName",
        ])
        self.assertEqual(len(set(REFUSALS)), 11)

    def test_nothing_else_is_refused(self):
        found = [value for value in vars(errors).values() if isinstance(value, type)]
        self.assertEqual(set(found), set(REFUSALS) | {ModeError})

    def test_mode_error_is_a_value_error(self):
        self.assertTrue(issubclass(ModeError, ValueError))
        self.assertNotIn(ModeError, REFUSALS)

    def test_each_is_a_mode_error_and_a_value_error(self):
        for refusal in REFUSALS:
            with self.subTest(refusal):
                self.assertTrue(issubclass(refusal, ModeError))
                self.assertFalse(issubclass(ModeError, refusal))
                self.assert_refused(refusal, self.raised, self.made(refusal))

    def test_none_stands_under_another_one(self):
        for one in REFUSALS:
            for other in REFUSALS:
                with self.subTest(one=one, other=other):
                    self.assertEqual(issubclass(one, other), one is other)

    def test_no_state_has_its_number(self):
        for number in (0, 1, 999, -1, 10 ** 5000):
            self.assertEqual(NoState(number).number, number)
        self.assertIsNone(NoState(None).number)

    def test_no_states_have_their_own_numbers(self):
        one = NoState(1)
        NoState(2)
        self.assertEqual(one.number, 1)
        self.assertEqual(self.assert_refused(NoState, self.raised, one).number, 1)

    def test_no_state_must_be_told_its_number(self):
        with self.assertRaises(TypeError):
            NoState()


if __name__ == "__main__":
    unittest.main()
