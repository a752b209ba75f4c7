"""What is called is piled; what waits for players who are gone; a full pile; how fights end."""

import unittest

from helper import all_let, come, come_in_turns, emptied, of_stand
from turnstack.errors import NotNow
from turnstack.fight import Fight
from turnstack.stands import played

PLAIN = "c 0 5 -"


def rule(player, number, place=0):
    return ("rule", player, number, place)


class Piling(unittest.TestCase):
    def test_player_by_player_from_the_one_who_has_the_turn(self):
        see = "a 0 5 - / when come mark x do each draw 1 mine / when come mark x do each score 1 mine"
        for turn in range(4):
            decks = [[see], [see], [see], [see]]
            decks[turn].append("x 0 5 x")
            fight = Fight(decks)
            owners = fight.owners()
            for player in range(4):
                come(fight, owners.index(player))
                all_let(fight)
            while of_stand(fight, "turn") != turn:
                all_let(fight)
            come(fight, owners.index(turn) + 1)
            order = [(turn + k) % 4 for k in range(4)]
            want = tuple(rule(p, owners.index(p), place) for p in order for place in (0, 1))
            self.assertEqual((of_stand(fight, "pile"), of_stand(fight, "turn")), (want, turn))

    def test_each_player_chooses_among_his_own(self):
        three = "a 0 5 - / when come self do each draw 1 mine / when come self do each draw 2 mine" \
                " / when come self do each draw 3 mine"
        for choices, order in (([], (0, 1, 2)), ([1], (1, 0, 2)), ([2, 1], (2, 1, 0)), ([0, 1], (0, 2, 1)),
                               ([-1, 4, 9], (2, 0, 1))):
            fight = Fight([[three], []])
            come(fight, 0, choices)
            self.assertEqual(of_stand(fight, "pile"), tuple(rule(0, 0, place) for place in order), choices)

    def test_choices_go_on_from_player_to_player(self):
        two = "a 0 5 - / when come mark x do each draw 1 mine / when come mark x do each draw 2 mine"
        fight = Fight([[two, "x 0 5 x"], [two], [PLAIN]])
        come_in_turns(fight, (0, 2))
        all_let(fight)
        all_let(fight)
        come(fight, 1, [1, 1])
        self.assertEqual(of_stand(fight, "pile"), (rule(0, 0, 1), rule(0, 0, 0), rule(1, 2, 1), rule(1, 2, 0)))

    def test_in_the_order_in_which_they_were_called(self):
        # The deed calls for the hurt of 0 and of 1, the look for the leaving of 1.
        texts = ["a 0 9 - / when leave all do each draw 1 mine / when hurt all do each draw 2 mine"
                 " / may 0 do each hurt 3 all", "b 0 3 - / when hurt self do each draw 3 mine"]
        for choices, order in (([], ((0, 1), (0, 1), (1, 0), (0, 0))), ([3, 2], ((0, 0), (1, 0), (0, 1), (0, 1)))):
            fight = Fight([texts, []])
            come(fight, 0)
            come(fight, 1)
            fight.use(0, 0, 2)
            all_let(fight, choices)
            self.assertEqual(of_stand(fight, "pile"), tuple(rule(0, *one) for one in order))

    def test_on_top_of_what_waits(self):
        fight = Fight([["a 0 9 - / may 0 do each score 1 mine / when score all do each draw 1 mine"], []])
        come(fight, 0)
        fight.use(0, 0, 0)
        fight.use(0, 0, 0)
        all_let(fight)
        self.assertEqual(of_stand(fight, "pile"), (rule(0, 0, 0), rule(0, 0, 1)))

    def test_at_a_next_turn_the_new_one_is_first(self):
        see = "a 0 5 - / when draw all do each score 1 mine"
        fight = Fight([[see], [see]])
        come(fight, 0)
        all_let(fight)
        self.assertEqual(of_stand(fight, "pile"), (rule(0, 0),))
        emptied(fight)
        come(fight, 1)
        all_let(fight)
        self.assertEqual(of_stand(fight, "pile"), (rule(0, 0), rule(1, 1)))
        emptied(fight)
        all_let(fight)
        self.assertEqual(of_stand(fight, "pile"), (rule(1, 1), rule(0, 0)))

    def test_for_the_keeper_in_the_sight(self):
        fight = Fight([["a 0 5 t / when come all do each score 1 mine"], ["b 0 5 - / hold steal mark t"]])
        come(fight, 0)
        emptied(fight)
        all_let(fight)
        come(fight, 1)
        self.assertEqual(of_stand(fight, "pile"), (rule(1, 0),))


class Going(unittest.TestCase):
    """What waits for a player who is gone, and what was called for him."""

    STRIKE = "s 0 9 - / may 0 do one lose 20 not mine"

    def test_a_card_that_waits_goes_to_the_heap(self):
        fight = Fight([[PLAIN, "a 0 4 m", PLAIN, PLAIN], [self.STRIKE], [PLAIN]])
        all_let(fight)
        come(fight, 4)
        all_let(fight)
        all_let(fight)
        fight.play(0, 1)
        fight.let(0)
        fight.use(1, 4, 0)
        all_let(fight, [0])
        self.assertEqual(fight.stand()[1:], ((), 0, 1, 0, (5, 5, 5), None))
        self.assertEqual((of_stand(fight, "gone"), of_stand(fight, "heap")), ((True, False, False), (1,)))
        self.assertEqual((of_stand(fight, "hands"), of_stand(fight, "decks")), (((0, 2, 3), (), (5,)), ((), (), ())))
        self.assertEqual(fight.log(), [(("lose", -1, 20), [], ("lose", -1, 20))])

    def test_decks_of_one_who_is_gone_stay(self):
        fight = Fight([[PLAIN] * 5, [self.STRIKE], []])
        all_let(fight)
        come(fight, 5)
        fight.use(1, 5, 0)
        all_let(fight)
        self.assertEqual((of_stand(fight, "hands")[0], of_stand(fight, "decks")[0]), ((0, 1, 2), (3, 4)))

    def test_rules_that_wait_are_off_and_the_others_stay(self):
        may = "a 0 9 - / may 0 do each score 1 mine / may 0 do each score 2 mine"
        fight = Fight([[may], [may], [may, self.STRIKE]])
        come_in_turns(fight, (0, 1, 2))
        come(fight, 3)
        for player, number, place in ((2, 2, 1), (2, 2, 0)):
            fight.use(player, number, place)
        fight.let(2)
        fight.use(0, 0, 0)
        fight.let(0)
        fight.use(1, 1, 1)
        fight.let(1)
        fight.use(2, 3, 0)
        fight.let(2)
        fight.let(0)
        self.assertEqual(len(of_stand(fight, "pile")), 5)
        fight.let(1, [0])
        self.assertEqual(of_stand(fight, "pile"), (rule(2, 2, 1), rule(2, 2, 0), rule(1, 1, 1)))
        self.assertEqual((of_stand(fight, "gone"), of_stand(fight, "heap")), ((True, False, False), (0,)))
        self.assertEqual((of_stand(fight, "over"), of_stand(fight, "word")), (None, 2))

    def test_a_rule_that_waits_of_a_card_that_another_one_owns(self):
        # The player 1 uses a rule of the card 0, which he stole; he goes, and the card lies on.
        fight = Fight([["a 0 9 t / may 0 do each score 1 mine"], ["b 0 9 - / hold steal mark t"], [self.STRIKE]])
        come_in_turns(fight, (0, 1, 2))
        fight.let(2)
        fight.let(0)
        fight.use(1, 0, 0)
        fight.let(1)
        fight.use(2, 2, 0)
        all_let(fight, [1])
        self.assertEqual((of_stand(fight, "gone"), of_stand(fight, "pile")), ((False, True, False), ()))
        self.assertEqual((of_stand(fight, "lying"), of_stand(fight, "heap")), ((0, 2), (1,)))

    def test_what_was_called_for_him_is_not_piled(self):
        see = "a 0 9 - / when lose all do each score 1 mine"
        fight = Fight([[see], [see], [see, self.STRIKE]])
        come_in_turns(fight, (0, 1, 2))
        come(fight, 3)
        fight.use(2, 3, 0)
        all_let(fight, [1])
        self.assertEqual(of_stand(fight, "gone"), (False, True, False))
        self.assertEqual(of_stand(fight, "pile"), (rule(2, 2), rule(0, 0)))

    def test_called_for_a_keeper_who_goes(self):
        # The card 0 lies on, with its owner; what it called was called for the player 1, who is gone.
        fight = Fight([["a 0 9 t / when lose all do each score 1 mine"], ["b 0 9 - / hold steal mark t"],
                       [self.STRIKE]])
        come_in_turns(fight, (0, 1, 2))
        fight.use(2, 2, 0)
        all_let(fight, [1])
        self.assertEqual((of_stand(fight, "gone"), of_stand(fight, "pile")), ((False, True, False), ()))
        self.assertEqual((of_stand(fight, "lying"), of_stand(fight, "heap")), ((0, 2), (1,)))

    def test_places_of_what_went_are_free(self):
        grow = "g 0 9 - / when score all do each score 1 all / may 0 do each score 1 all"
        fight = Fight([[grow], [self.STRIKE], [PLAIN]])
        come(fight, 0)
        all_let(fight)
        come(fight, 1)
        fight.let(1)
        fight.let(2)
        fight.use(0, 0, 1)
        while len(of_stand(fight, "pile")) < 38:
            all_let(fight)
        fight.use(1, 1, 0)
        all_let(fight, [0])
        self.assertEqual((of_stand(fight, "pile"), of_stand(fight, "over")), ((), None))


class Full(unittest.TestCase):
    GROW = "g 0 9 - / when score all do each score 1 all / may 1 do each score 1 all / may 0 do each hurt 0 self"

    def grown(self):
        """Forty wait; each all_let does one and calls two."""
        fight = Fight([[self.GROW], []])
        come(fight, 0)
        fight.use(0, 0, 1)
        for many in range(2, 41):
            all_let(fight)
            self.assertEqual((len(of_stand(fight, "pile")), of_stand(fight, "over")), (many, None))
        return fight

    def test_called_ones_that_find_no_place(self):
        fight = self.grown()
        all_let(fight)
        self.assertEqual(fight.stand()[1:], ((rule(0, 0),) * 40, 0, 0, 0, (4, 0), ("full",)))
        self.assertEqual((of_stand(fight, "scores"), len(fight.log())), ((40, 40), 2))
        with self.assertRaises(NotNow) as taken:
            fight.let(0)
        self.assertEqual(taken.exception.why, "over")

    def test_a_used_one_that_finds_no_place(self):
        fight = self.grown()
        table = fight.stand()[0]
        fight.use(0, 0, 1)
        self.assertEqual(fight.stand(), (table, (rule(0, 0),) * 40, 0, 0, 0, (3, 0), ("full",)))
        self.assertEqual(fight.log(), [])

    def test_passes_are_0_all_the_same(self):
        fight = Fight([[self.GROW], ["u 0 9 - / may 2 do each hurt 0 self"]])
        all_let(fight)
        come(fight, 1)
        all_let(fight)
        come(fight, 0)
        fight.use(0, 0, 1)
        while len(of_stand(fight, "pile")) < 40:
            all_let(fight)
        fight.let(0)
        self.assertEqual((of_stand(fight, "passes"), of_stand(fight, "coins")), (1, (4, 5)))
        fight.use(1, 1, 0)
        self.assertEqual(fight.stand()[1:], ((rule(0, 0),) * 40, 0, 1, 0, (4, 3), ("full",)))

    def test_the_fortieth_finds_place(self):
        fight = self.grown()
        fight.back(2)
        self.assertEqual(len(of_stand(fight, "pile")), 39)
        fight.use(0, 0, 2)
        self.assertEqual((of_stand(fight, "pile")[-1], len(of_stand(fight, "pile"))), (rule(0, 0, 2), 40))
        self.assertEqual(of_stand(fight, "over"), None)
        all_let(fight)
        self.assertEqual((len(of_stand(fight, "pile")), of_stand(fight, "over")), (39, None))

    def test_what_was_put_ahead_stays(self):
        see = "b 0 9 - / when score all do each hurt 0 self"
        fight = Fight([["g 0 9 - / when score all do each score 1 all / may 0 do each score 1 all"], [see]])
        all_let(fight)
        come(fight, 1)
        all_let(fight)
        come(fight, 0)
        fight.use(0, 0, 1)
        while of_stand(fight, "over") is None:
            ahead = of_stand(fight, "pile")
            all_let(fight)
        self.assertEqual((of_stand(fight, "over"), ahead), (("full",), (rule(0, 0),) * 38))
        # Two for the player who has the turn, then one for the other one; the last one finds no place.
        self.assertEqual(of_stand(fight, "pile"), (rule(0, 0),) * 39 + (rule(1, 1),))

    def test_a_played_card_that_finds_no_place(self):
        # A card is played on an empty pile alone, so this is asked of the stand itself.
        fight = Fight([["a 2 5 m", PLAIN], []])
        stand = fight.stand()
        full = stand[:1] + ((rule(0, 1),) * 40,) + stand[2:]
        table = played(fight.cards(), full, 0, 0)[0]
        self.assertEqual(played(fight.cards(), full, 0, 0)[1:], (full[1], 0, 0, 0, (3, 0), ("full",)))
        self.assertEqual((table[4], table[6]), (((1,), ()), (0,)))


class Ends(unittest.TestCase):
    def test_won(self):
        for players, winner in ((2, 0), (3, 0), (4, 0)):
            fight = Fight([["a 0 5 - / when come self do each lose 20 not mine", PLAIN]] + [[PLAIN]] * (players - 1))
            come(fight, 0)
            self.assertEqual(of_stand(fight, "over"), None)
            all_let(fight)
            self.assertEqual(fight.stand()[1:], ((), 0, 0, 0, (5,) + (0,) * (players - 1), ("won", winner)))
            self.assertEqual(of_stand(fight, "gone"), (False,) + (True,) * (players - 1))

    def test_won_by_the_other_one(self):
        fight = Fight([["a 0 5 - / when come self do each lose 20 mine", PLAIN], [PLAIN]])
        come(fight, 0)
        all_let(fight)
        self.assertEqual(fight.stand()[1:], ((), 0, 1, 0, (5, 0), ("won", 1)))
        self.assertEqual(of_stand(fight, "heap"), (0,))

    def test_none(self):
        for players in (2, 3, 4):
            fight = Fight([["a 0 5 - / when come self do each lose 20 all", PLAIN]] + [[PLAIN]] * (players - 1))
            come(fight, 0)
            all_let(fight)
            # Nobody is left, so the word stays with the one who let go last.
            self.assertEqual(fight.stand()[1:], ((), 0, players - 1, 0, (5,) + (0,) * (players - 1), ("none",)))

    def test_not_over_while_two_are_left(self):
        fight = Fight([["a 0 5 - / when come self do one lose 20 not mine", PLAIN], [], []])
        come(fight, 0)
        all_let(fight)
        self.assertEqual(of_stand(fight, "over"), None)

    def test_points_below_0_by_a_next_turn(self):
        fight = Fight([["a 0 5 - / instead draw not mine do as lose / instead lose all do more 19"], []])
        come(fight, 0)
        all_let(fight)
        self.assertEqual(fight.stand()[1:], ((), 1, 0, 0, (5, 5), ("won", 0)))

    def test_what_is_called_is_piled_though_it_is_won(self):
        fight = Fight([["a 0 5 - / when come self do each lose 20 not mine / when lose all do each score 1 mine"], []])
        come(fight, 0)
        all_let(fight)
        self.assertEqual((of_stand(fight, "over"), of_stand(fight, "pile")), (("won", 0), (rule(0, 0, 1),)))

    def test_won_goes_ahead_of_full(self):
        lose = "a 0 9 - / when lose all do each lose 1 not mine"
        fight = Fight([[lose, lose, lose + " / may 0 do each lose 1 not mine"], []])
        for number in (0, 1, 2):
            come(fight, number)
        fight.use(0, 2, 1)
        for many in range(3, 40, 2):
            all_let(fight)
            self.assertEqual((len(of_stand(fight, "pile")), of_stand(fight, "over")), (many, None))
        all_let(fight)
        self.assertEqual((len(of_stand(fight, "pile")), of_stand(fight, "over")), (40, ("won", 0)))
        self.assertEqual((of_stand(fight, "points"), of_stand(fight, "pile")[-2:]), ((20, 0), (rule(0, 0), rule(0, 1))))


if __name__ == "__main__":
    unittest.main()
