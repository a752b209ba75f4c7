"""Deeds that are done again many times at once, and deeds that are taken back."""

import unittest

from helper import all_let, come, of_stand, random_choices, random_decks, seeded
from turnstack.errors import NotSame
from turnstack.fight import Fight

SIXTY = 10 ** 60 - 1
RING = "r 0 9 - / when score mine do each score 3 mine / may 1 do each score 0 mine"
BOTH = "r 0 9 - / when score mine do each score 3 all / may 1 do each score 0 mine"


def ringing(text=RING, players=2):
    """A fight in which each round of lettings does the rule and calls it again: the first round was done."""
    fight = Fight([[text]] + [[]] * (players - 1))
    come(fight, 0)
    fight.use(0, 0, 1)
    all_let(fight)
    return fight


class Again(unittest.TestCase):
    def refused(self, fight, number, many=1):
        ahead = (fight.stand(), fight.log(), fight.many())
        with self.assertRaises(NotSame):
            fight.again(number, many)
        self.assertEqual((fight.stand(), fight.log(), fight.many()), ahead)

    def test_each_score_grows(self):
        for players in (2, 3, 4):
            for many in (0, 1, 2, 1000, SIXTY):
                fight = ringing(BOTH, players)
                all_let(fight)
                self.assertEqual(of_stand(fight, "scores"), (3,) * players)
                stand, deeds = fight.stand(), fight.many()
                self.assertIsNone(fight.again(players, many))
                self.assertEqual(of_stand(fight, "scores"), (3 + 3 * many,) * players)
                self.assertEqual(fight.stand()[1:], stand[1:])
                self.assertEqual(fight.stand()[0][2:], stand[0][2:])
                self.assertEqual((fight.log(), fight.many()), ([], deeds + 1))

    def test_each_by_its_own_growth(self):
        fight = ringing()
        all_let(fight)
        fight.again(2, 10)
        self.assertEqual(of_stand(fight, "scores"), (33, 0))

    def test_the_growth_of_these_deeds_alone(self):
        fight = ringing()
        for _ in range(5):
            all_let(fight)
        self.assertEqual(of_stand(fight, "scores"), (15, 0))
        fight.again(2, 100)
        self.assertEqual(of_stand(fight, "scores"), (315, 0))
        fight.back(1)
        fight.again(6, 100)
        self.assertEqual(of_stand(fight, "scores"), (915, 0))

    def test_as_doing_them_one_by_one(self):
        for players in (2, 3):
            for many in (0, 1, 7):
                fight, other = ringing(BOTH, players), ringing(BOTH, players)
                all_let(fight)
                fight.again(players, many)
                for _ in range(1 + many):
                    all_let(other)
                self.assertEqual(fight.stand(), other.stand())

    def test_deeds_by_which_no_score_grows(self):
        fight = Fight([[], []])
        for _ in range(3):
            all_let(fight)
        self.assertEqual(of_stand(fight, "coins"), (5, 5))
        self.refused(fight, 2)
        all_let(fight)
        self.refused(fight, 2)
        self.refused(fight, 6)
        all_let(fight)
        stand = fight.stand()
        fight.again(4, SIXTY)
        self.assertEqual((fight.stand(), fight.many()), (stand, 11))

    def test_no_deeds_or_fewer(self):
        fight = ringing()
        all_let(fight)
        for number in (0, -1, -2, -(10 ** 59)):
            self.refused(fight, number)
        self.refused(Fight([[], []]), 0)

    def test_more_than_were_done(self):
        self.refused(Fight([[], []]), 1)
        fight = ringing()
        all_let(fight)
        for more in (1, 2, 10 ** 59):
            self.refused(fight, fight.many() + more)

    def test_fewer_than_0_times(self):
        fight = ringing()
        all_let(fight)
        self.refused(fight, 2, -1)
        fight.again(2, 0)

    def test_a_stand_that_is_another_one(self):
        fight = ringing()
        self.refused(fight, 2)
        all_let(fight)
        for number in (1, 3, 4, 5, 6, 7):
            self.refused(fight, number)
        fight.again(2, 1)

    def test_all_but_the_scores_counts(self):
        # Two rules that call one another, so the pile, the word and the turn are the same behind four lettings.
        for kind, what, first, second in (
            ("lose", "lose 1 mine", False, False), ("lose", "lose 0 mine", True, True),
            ("hurt", "hurt 1 self", False, False), ("hurt", "hurt 0 self", True, True),
            ("gain", "gain x self", False, True), ("lack", "lack y self", False, True),
            ("draw", "draw 1 mine", False, True),
        ):
            text = f"r 0 9 y / when score mine do each {what} / when {kind} all do each score 3 mine"
            fight = Fight([[text + " / may 1 do each score 0 mine", "a 9 9 -", "b 9 9 -", "c 9 9 -"], []])
            come(fight, 0)
            fight.use(0, 0, 2)
            all_let(fight)
            for same in (first, second):
                all_let(fight)
                all_let(fight)
                if not same:
                    self.refused(fight, 4)
            if second:
                fight.again(4, 5)
                self.assertEqual(of_stand(fight, "scores"), (6 + 15, 0))
        fight = Fight([["a 0 9 - / may 1 do each score 1 mine"], []])
        come(fight, 0)
        fight.use(0, 0, 0)
        all_let(fight)
        self.refused(fight, 3)

    def test_a_use_among_them(self):
        fight = Fight([["r 0 9 - / may 0 do each score 2 not mine"], []])
        come(fight, 0)
        fight.use(0, 0, 0)
        all_let(fight)
        fight.again(3, 4)
        self.assertEqual((of_stand(fight, "scores"), fight.many()), ((0, 10), 7))

    def test_a_repeat_among_them(self):
        fight = ringing()
        all_let(fight)
        fight.again(2, 5)
        for number in (1, 2, 3, 5):
            self.refused(fight, number)
        all_let(fight)
        for number in (3, 5):
            self.refused(fight, number)
        fight.again(2, 2)
        self.assertEqual(of_stand(fight, "scores"), (3 + 15 + 3 + 6, 0))

    def test_a_repeat_no_times_is_one_too(self):
        fight = ringing()
        all_let(fight)
        fight.again(2, 0)
        self.refused(fight, 1, 0)

    def test_deeds_taken_back_do_not_count(self):
        fight = ringing()
        all_let(fight)
        fight.back(1)
        self.refused(fight, 2)
        fight.back(1)
        self.refused(fight, 2)
        all_let(fight)
        fight.again(2, 4)
        fight.back(1)
        fight.again(2, 1)
        self.assertEqual(of_stand(fight, "scores"), (6, 0))

    def test_a_repeat_taken_back_does_not_stand_in_the_way(self):
        fight = ringing()
        all_let(fight)
        fight.again(2, 4)
        fight.back(1)
        all_let(fight)
        fight.again(4, 1)
        self.assertEqual(of_stand(fight, "scores"), (12, 0))

    def test_at_any_time(self):
        # The word is with the player 1, and one has let go: the deeds between two such stands are done again.
        fight = ringing()
        fight.let(0)
        fight.let(1)
        fight.let(0)
        fight.again(2, 3)
        self.assertEqual(fight.stand()[3:5], (1, 1))
        self.assertEqual(of_stand(fight, "scores"), (12, 0))
        fight.let(1)
        self.assertEqual(of_stand(fight, "scores"), (15, 0))

    def test_when_the_fight_is_over(self):
        fight = Fight([["a 0 5 - / when come self do each lose 20 not mine"], []])
        come(fight, 0)
        all_let(fight)
        self.assertEqual(of_stand(fight, "over"), ("won", 0))
        for number in (0, 1, 2, 4, 9):
            self.refused(fight, number)

    def test_with_choices(self):
        fight = Fight([["r 0 9 - / when score all do one score 3 all / may 1 do each score 0 mine"], []])
        come(fight, 0)
        fight.use(0, 0, 1)
        all_let(fight)
        all_let(fight, [1])
        all_let(fight, [0])
        all_let(fight, [1])
        fight.again(6, 10)
        self.assertEqual(of_stand(fight, "scores"), (33, 66))


class Back(unittest.TestCase):
    DECKS = [["a 0 4 m / may 1 do each hurt 3 all / when hurt all do one score 1 all", "b 2 6 - / hold more 1 all"],
             ["c 0 3 - / may 0 do one hurt 2 all", "d 1 5 -"]]
    DEEDS = (("play", 0, 0), ("let", 0), ("let", 1), ("use", 0, 0, 0), ("let", 0, [4]), ("let", 1, [1]), ("let", 0),
             ("let", 1, [1]), ("play", 0, 1), ("let", 0), ("let", 1), ("let", 0), ("let", 1), ("play", 1, 2),
             ("let", 1), ("let", 0), ("use", 1, 2, 0), ("let", 1), ("use", 0, 0, 0), ("let", 0), ("let", 1, [1]),
             ("let", 1), ("let", 0, [0, 1]))

    def row(self):
        """A fight with its deeds done, and for each number of them the last deed, the stand and the log."""
        fight = Fight(self.DECKS)
        rows = [(None, fight.stand(), fight.log())]
        for deed in self.DEEDS:
            getattr(fight, deed[0])(*deed[1:])
            rows.append((deed, fight.stand(), fight.log()))
        return fight, rows

    def test_each_deed_of_the_row_makes_another_stand(self):
        fight, rows = self.row()
        self.assertEqual((fight.many(), len({repr(row[1]) for row in rows})), (len(self.DEEDS), len(self.DEEDS) + 1))

    def test_none_some_and_all(self):
        for number in range(len(self.row()[1])):
            fight, rows = self.row()
            self.assertIsNone(fight.back(number))
            self.assertEqual((fight.stand(), fight.log(), fight.many()),
                             (rows[len(rows) - 1 - number][1], [], len(rows) - 1 - number))

    def test_the_log_is_empty_behind_none_too(self):
        fight, rows = self.row()
        fight.back(len(rows) - 4)
        all_let(fight)
        self.assertNotEqual(fight.log(), [])
        fight.back(0)
        self.assertEqual(fight.log(), [])

    def test_the_same_deeds_anew(self):
        for number in range(len(self.row()[1])):
            fight, rows = self.row()
            fight.back(number)
            for deed, stand, log in rows[len(rows) - number:]:
                getattr(fight, deed[0])(*deed[1:])
                self.assertEqual((fight.stand(), fight.log()), (stand, log))
            self.assertEqual(fight.many(), len(rows) - 1)

    def test_one_by_one(self):
        fight, rows = self.row()
        for many in range(len(rows) - 2, -1, -1):
            fight.back(1)
            self.assertEqual((fight.stand(), fight.many()), (rows[many][1], many))

    def test_more_and_fewer_than_0(self):
        fight, rows = self.row()
        log = fight.log()
        for number in (len(rows), len(rows) + 1, 10 ** 59, -1, -2, -(10 ** 59)):
            with self.assertRaises(NotSame):
                fight.back(number)
            self.assertEqual((fight.stand(), fight.many(), fight.log()), (rows[-1][1], len(rows) - 1, log))
        fight.back(len(rows) - 1)
        with self.assertRaises(NotSame):
            fight.back(1)
        fight.back(0)
        self.assertEqual((fight.stand(), fight.many()), (rows[0][1], 0))

    def test_of_a_fight_with_no_deed(self):
        fight = Fight([[], []])
        fight.back(0)
        self.assertEqual((fight.many(), fight.log()), (0, []))
        with self.assertRaises(NotSame):
            fight.back(1)

    def test_other_deeds_behind_it(self):
        fight, rows = self.row()
        fight.back(len(rows) - 1)
        fight.let(0)
        fight.let(1)
        self.assertEqual((of_stand(fight, "turn"), fight.many()), (1, 2))
        fight.back(1)
        self.assertEqual((of_stand(fight, "turn"), of_stand(fight, "word"), of_stand(fight, "passes")), (0, 1, 1))

    def test_repeats_are_taken_back_too(self):
        fight = ringing()
        all_let(fight)
        stand, many = fight.stand(), fight.many()
        fight.again(2, SIXTY)
        fight.back(1)
        self.assertEqual((fight.stand(), fight.many()), (stand, many))
        fight.again(2, 1)
        all_let(fight)
        fight.back(3)
        self.assertEqual((fight.stand(), fight.many()), (stand, many))

    def test_an_end_is_taken_back(self):
        fight = Fight([["a 0 5 - / when come self do each lose 20 not mine"], []])
        come(fight, 0)
        all_let(fight)
        self.assertEqual(of_stand(fight, "over"), ("won", 0))
        fight.back(1)
        self.assertEqual((of_stand(fight, "over"), of_stand(fight, "word"), of_stand(fight, "passes")), (None, 1, 1))
        fight.let(1)
        self.assertEqual(of_stand(fight, "over"), ("won", 0))

    def test_by_chance(self):
        for rng in seeded(25, 900):
            fight = Fight(random_decks(rng, rng.randrange(2, 5)))
            stands = [fight.stand()]
            for _ in range(60):
                word = of_stand(fight, "word")
                if rng.random() < 0.2:
                    number = rng.randrange(min(6, len(stands)))
                    fight.back(number)
                    stands = stands[:len(stands) - number]
                elif fight.may_do(word):
                    deed = rng.choice(fight.may_do(word))
                    extra = (random_choices(rng),) if deed == ("let",) else deed[1:]
                    getattr(fight, deed[0])(word, *extra)
                    stands.append(fight.stand())
                self.assertEqual((fight.stand(), fight.many()), (stands[-1], len(stands) - 1))


if __name__ == "__main__":
    unittest.main()
