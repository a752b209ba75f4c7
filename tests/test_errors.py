import unittest

from turnstack import errors
from turnstack.errors import FightError, NoCard, NoFight, NoRow, NotNow, NotSame

REFUSALS = (NoCard, NotNow, NotSame, NoFight, NoRow)


class Errors(unittest.TestCase):
    def test_any_refusal_is_a_value_error(self):
        self.assertTrue(issubclass(FightError, ValueError))

    def test_each_refusal_stands_under_fight_error(self):
        for refusal in REFUSALS:
            self.assertTrue(issubclass(refusal, FightError), refusal)
            self.assertIsNot(refusal, FightError)

    def test_none_stands_under_another_one(self):
        for one in REFUSALS:
            for other in REFUSALS:
                self.assertEqual(issubclass(one, other), one is other, (one, other))

    def test_they_bear_their_names(self):
        for refusal in REFUSALS + (FightError,):
            self.assertIs(getattr(errors, refusal.__name__), refusal)

    def test_not_now_has_why_and_card(self):
        for why, card in (("over", 3), ("word", None), ("coins", 0), ("rule", 15)):
            error = NotNow(why, card)
            self.assertEqual(error.why, why)
            self.assertEqual(error.card, card)

    def test_not_now_has_them_when_it_is_taken(self):
        with self.assertRaises(FightError) as taken:
            raise NotNow("hand", 7)
        self.assertEqual((taken.exception.why, taken.exception.card), ("hand", 7))

    def test_the_others_are_made_of_words(self):
        for refusal in (FightError, NoCard, NotSame, NoFight, NoRow):
            with self.assertRaises(ValueError):
                raise refusal("some words")


if __name__ == "__main__":
    unittest.main()
