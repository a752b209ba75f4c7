"""Fights: their deeds, turns and pile; test_ends.py has the piling and the ends, test_repeats.py again and back."""

import unittest

from helper import (
    PlainFight, all_let, altered, come, emptied, of_stand, random_choices, random_decks, seeded,
)
from turnstack.cards import show_card
from turnstack.errors import NoCard, NoFight, NotNow
from turnstack.fight import Fight
from turnstack.table import begun

PLAIN = "c 0 5 -"
BOMB = "bomb 0 5 - / when come self do one lose 20 not mine"
FIERCE = "x 0 6 - / when come self do each lose 9 not mine / when draw all do one lose 5 not mine"


def with_gone(players, gone, decks=None):
    """A fight of so many players in which one, not the player 0, is gone; the card 0 lies."""
    decks = [[] for _ in range(players)] if decks is None else decks
    fight = Fight([[BOMB] + decks[0]] + decks[1:])
    come(fight, 0)
    all_let(fight, [gone - 1])
    return fight


class Begin(unittest.TestCase):
    def test_the_first_stand(self):
        for players in (2, 3, 4):
            decks = [[PLAIN] * (k + 1) for k in range(players)]
            fight = Fight(decks)
            coins = (5,) + (0,) * (players - 1)
            self.assertEqual(fight.stand(), (begun(decks)[2], (), 0, 0, 0, coins, None))
            self.assertEqual((fight.log(), fight.many()), ([], 0))

    def test_cards_and_owners(self):
        decks = [["a 1 2 x", "b 2 3 - / may 1 do one leave all"], [], ["c 0 0 -"]]
        fight = Fight(decks)
        self.assertEqual([show_card(card) for card in fight.cards()], decks[0] + decks[2])
        self.assertEqual(fight.owners(), [0, 0, 2])
        self.assertEqual([type(told) for told in (fight.cards(), fight.owners(), fight.many())], [list, list, int])

    def test_refused_as_begun_does(self):
        for decks in ([[PLAIN]], [[]] * 5, [[PLAIN] * 17, []], [["h 1 2 - / hold more 1 all"] * 9, []]):
            with self.assertRaises(NoFight):
                Fight(decks)
        for decks in ([["x"], []], [[None]], [[PLAIN] * 17 + ["x"], []]):
            with self.assertRaises(NoCard):
                Fight(decks)


class Playing(unittest.TestCase):
    def test_it_costs_leaves_the_hand_and_waits(self):
        for players in (2, 3, 4):
            fight = Fight([["a 2 5 -", "b 3 5 -", "c 0 5 -"]] + [[PLAIN]] * (players - 1))
            table = fight.stand()[0]
            self.assertIsNone(fight.play(0, 1))
            hands = ((0, 2),) + table[4][1:]
            self.assertEqual(fight.stand(), (altered(table, hands=hands), (("card", 0, 1, 0),), 0, 0, 0,
                                             (2,) + (0,) * (players - 1), None))
            self.assertEqual((fight.log(), fight.many()), ([], 1))

    def test_passes_are_0_then(self):
        fight = Fight([["a 0 5 - / may 1 do one score 1 mine", PLAIN], [PLAIN]])
        come(fight, 0)
        fight.use(0, 0, 0)
        fight.let(0)
        fight.let(1)
        self.assertEqual((of_stand(fight, "passes"), of_stand(fight, "word")), (0, 0))
        fight.play(0, 1)
        self.assertEqual((of_stand(fight, "passes"), of_stand(fight, "word")), (0, 0))

    def test_with_all_his_coins(self):
        fight = Fight([["a 5 5 -", "b 0 5 -"], []])
        fight.play(0, 0)
        all_let(fight)
        fight.play(0, 1)
        self.assertEqual(of_stand(fight, "coins"), (0, 0))

    def test_by_another_player_in_his_turn(self):
        fight = Fight([[], [], ["a 4 5 -"]])
        all_let(fight)
        all_let(fight)
        fight.play(2, 0)
        self.assertEqual(fight.stand()[1:], ((("card", 2, 0, 0),), 2, 2, 0, (5, 5, 1), None))

    def test_with_one_gone(self):
        fight = with_gone(3, 1, [[], [], [PLAIN]])
        all_let(fight)
        self.assertEqual((of_stand(fight, "turn"), of_stand(fight, "word")), (2, 2))
        come(fight, 1)
        self.assertEqual(of_stand(fight, "lying"), (0, 1))


class Using(unittest.TestCase):
    DECKS = [["a 0 5 - / hold gain m self / may 2 do one score 1 mine", "b 0 5 -"],
             ["d 0 5 - / may 0 do one score 1 mine / may 1 do each score 2 mine"], []]

    def test_it_costs_and_waits_at_its_place(self):
        for players in (2, 3):
            fight = Fight(self.DECKS[:players])
            come(fight, 0)
            table = fight.stand()[0]
            self.assertIsNone(fight.use(0, 0, 1))
            self.assertEqual(fight.stand(), (table, (("rule", 0, 0, 1),), 0, 0, 0, (3,) + (0,) * (players - 1), None))
            fight.use(0, 0, 1)
            self.assertEqual(fight.stand()[1], (("rule", 0, 0, 1), ("rule", 0, 0, 1)))
            self.assertEqual((of_stand(fight, "coins")[0], fight.log(), fight.many()), (1, [], 4 + players - 1))

    def test_in_another_one_s_turn(self):
        fight = Fight(self.DECKS)
        all_let(fight)
        come(fight, 2)
        all_let(fight)
        all_let(fight)
        fight.play(0, 0)
        fight.let(0)
        self.assertEqual((of_stand(fight, "word"), of_stand(fight, "passes")), (1, 1))
        fight.use(1, 2, 1)
        self.assertEqual(fight.stand()[1:], ((("card", 0, 0, 0), ("rule", 1, 2, 1)), 0, 1, 0, (5, 4, 5), None))

    def test_of_a_card_that_he_keeps_in_the_sight(self):
        fight = Fight([["a 0 5 t / may 0 do each score 1 mine"], ["b 0 5 - / hold steal mark t"]])
        come(fight, 0)
        all_let(fight)
        come(fight, 1)
        fight.use(1, 0, 0)
        self.assertEqual(of_stand(fight, "pile"), (("rule", 1, 0, 0),))
        all_let(fight)
        self.assertEqual(of_stand(fight, "scores"), (0, 1))


class Letting(unittest.TestCase):
    def test_the_word_goes_round(self):
        for players in (2, 3, 4):
            fight = Fight([[PLAIN]] + [[]] * (players - 1))
            fight.play(0, 0)
            stand = fight.stand()
            for player in range(players - 1):
                self.assertIsNone(fight.let(player))
                self.assertEqual(fight.stand(), stand[:3] + (player + 1, player + 1) + stand[5:])
                self.assertEqual(fight.log(), [])
            fight.let(players - 1)
            self.assertEqual(fight.stand()[1:5], ((), 0, 0, 0))
            self.assertEqual(of_stand(fight, "lying"), (0,))

    def test_one_who_is_gone_is_left_out(self):
        for players, gone in ((3, 1), (3, 2), (4, 1), (4, 2), (4, 3)):
            fight = with_gone(players, gone)
            self.assertEqual(of_stand(fight, "gone"), tuple(player == gone for player in range(players)))
            words = []
            for _ in range(players - 1):
                words.append(of_stand(fight, "word"))
                self.assertEqual(of_stand(fight, "passes"), len(words) - 1)
                fight.let(words[-1])
            self.assertEqual(words, [player for player in range(players) if player != gone])
            self.assertEqual((of_stand(fight, "passes"), of_stand(fight, "turn")), (0, 2 if gone == 1 else 1))

    def test_passes_count_in_a_row_only(self):
        fight = Fight([["a 0 5 - / may 0 do one score 1 mine"], [], []])
        come(fight, 0)
        fight.let(0)
        fight.let(1)
        fight.let(2)
        self.assertEqual(of_stand(fight, "turn"), 1)
        fight.let(1)
        fight.let(2)
        self.assertEqual((of_stand(fight, "word"), of_stand(fight, "passes")), (0, 2))
        fight.use(0, 0, 0)
        self.assertEqual((of_stand(fight, "word"), of_stand(fight, "passes")), (0, 0))
        fight.let(0)
        fight.let(1)
        self.assertEqual((len(of_stand(fight, "pile")), of_stand(fight, "passes")), (1, 2))
        fight.let(2)
        self.assertEqual((of_stand(fight, "pile"), of_stand(fight, "word"), of_stand(fight, "turn")), ((), 1, 1))
        self.assertEqual(of_stand(fight, "scores"), (1, 0, 0))

    def test_choices_of_lettings_by_which_nothing_is_done_are_dropped(self):
        fight = Fight([["a 0 5 - / may 0 do one score 1 all"], []])
        come(fight, 0)
        fight.use(0, 0, 0)
        fight.let(0, [1])
        fight.let(1)
        self.assertEqual(of_stand(fight, "scores"), (1, 0))


class Top(unittest.TestCase):
    def test_a_card_comes(self):
        fight = Fight([["a 0 5 m / instead leave all do none"], ["b 0 5 -"]])
        come(fight, 0)
        self.assertEqual(of_stand(fight, "lying"), (0,))
        self.assertEqual(fight.log(), [(("come", 0, 0), [], ("come", 0, 0))])
        all_let(fight)
        come(fight, 1)
        self.assertEqual(of_stand(fight, "lying"), (0, 1))
        self.assertEqual((of_stand(fight, "pile"), of_stand(fight, "turn"), of_stand(fight, "word")), ((), 1, 1))

    def test_a_come_calls(self):
        fight = Fight([["a 0 5 - / when come all do each score 1 mine"],
                       ["b 0 5 - / when come self do each lose 1 all"]])
        come(fight, 0)
        self.assertEqual(of_stand(fight, "pile"), (("rule", 0, 0, 0),))
        emptied(fight)
        all_let(fight)
        come(fight, 1)
        self.assertEqual(of_stand(fight, "pile"), (("rule", 1, 1, 0), ("rule", 0, 0, 0)))
        self.assertEqual(of_stand(fight, "word"), 1)
        emptied(fight)
        self.assertEqual((of_stand(fight, "scores"), of_stand(fight, "points")), ((2, 0), (19, 19)))

    def test_the_last_one_first(self):
        fight = Fight([["a 0 5 - / may 0 do each score 1 mine / may 0 do each score 2 mine"], []])
        come(fight, 0)
        fight.use(0, 0, 0)
        fight.use(0, 0, 1)
        all_let(fight)
        self.assertEqual((of_stand(fight, "scores"), of_stand(fight, "pile")), ((2, 0), (("rule", 0, 0, 0),)))
        all_let(fight)
        self.assertEqual((of_stand(fight, "scores"), of_stand(fight, "pile")), ((3, 0), ()))
        self.assertEqual(fight.log(), [(("score", -1, 1), [], ("score", -1, 1))])

    def test_a_rule_whose_card_lies_no_more(self):
        decks = [["a 0 5 m / may 0 do each lose 3 not mine / may 0 do each hurt 1 self / may 0 do each hurt 1 mark n",
                  "b 0 5 n / may 0 do each leave mark m"], []]
        for place, log in ((0, [(("lose", -2, 3), [], ("lose", -2, 3))]), (1, []),
                           (2, [(("hurt", 1, 1), [], ("hurt", 1, 1))])):
            fight = Fight(decks)
            come(fight, 0)
            come(fight, 1)
            fight.use(0, 0, place)
            fight.use(0, 1, 0)
            all_let(fight)
            self.assertEqual((of_stand(fight, "lying"), of_stand(fight, "pile")), ((1,), (("rule", 0, 0, place),)))
            all_let(fight)
            self.assertEqual((fight.log(), of_stand(fight, "pile")), (log, ()))

    def test_for_its_player_though_another_one_keeps_the_card_now(self):
        fight = Fight([["a 0 5 - / may 0 do each lose 2 mine"],
                       ["b 0 5 - / hold steal mark z / may 0 do each gain z all"]])
        come(fight, 0)
        all_let(fight)
        come(fight, 1)
        fight.let(1)
        fight.use(0, 0, 0)
        fight.let(0)
        fight.use(1, 1, 1)
        all_let(fight)
        self.assertIn(("use", 0, 0), fight.may_do(1))
        all_let(fight)
        self.assertEqual(of_stand(fight, "points"), (18, 20))

    def test_of_when_rules_the_deed_too(self):
        fight = Fight([["a 0 5 - / may 3 do each score 1 mine / when come self do each score 7 mine"], []])
        come(fight, 0)
        self.assertEqual(of_stand(fight, "pile"), (("rule", 0, 0, 1),))
        all_let(fight)
        self.assertEqual(of_stand(fight, "scores"), (7, 0))

    def test_the_word_is_with_the_one_who_has_the_turn(self):
        fight = Fight([["a 0 5 - / may 0 do each score 1 mine"], [], []])
        come(fight, 0)
        all_let(fight)
        fight.let(1)
        fight.let(2)
        fight.use(0, 0, 0)
        all_let(fight)
        self.assertEqual(fight.stand()[2:5], (1, 1, 0))


class NextTurn(unittest.TestCase):
    def test_coins_and_a_card(self):
        fight = Fight([["a 3 5 -"] * 4, ["b 1 5 -"] * 5])
        come(fight, 0)
        self.assertEqual(of_stand(fight, "coins"), (2, 0))
        all_let(fight)
        self.assertEqual(fight.stand()[1:], ((), 1, 1, 0, (2, 5), None))
        self.assertEqual((of_stand(fight, "hands"), of_stand(fight, "decks")), (((1, 2), (4, 5, 6, 7)), ((3,), (8,))))
        self.assertEqual(fight.log(), [(("draw", -2, 1), [], ("draw", -2, 1))])
        all_let(fight)
        self.assertEqual(fight.stand()[1:], ((), 0, 0, 0, (5, 5), None))
        self.assertEqual(of_stand(fight, "hands")[0], (1, 2, 3))

    def test_of_an_empty_deck(self):
        fight = Fight([[], ["a 0 5 - / when draw all do each score 1 mine"]])
        all_let(fight)
        come(fight, 0)
        all_let(fight)
        self.assertEqual(fight.log(), [(("draw", -1, 1), [], ("draw", -1, 1))])
        self.assertEqual((of_stand(fight, "pile"), of_stand(fight, "turn")), ((("rule", 1, 0, 0),), 0))

    def test_the_draw_is_put_in_place(self):
        fight = Fight([["a 0 5 - / instead draw not mine do as lose / instead lose all do more 1"], [PLAIN] * 4])
        come(fight, 0)
        all_let(fight)
        self.assertEqual(fight.log(), [(("draw", -2, 1), [(1, 0, 0, ("lose", -2, 1)), (1, 0, 1, ("lose", -2, 2))],
                                        ("lose", -2, 2))])
        self.assertEqual((of_stand(fight, "points"), of_stand(fight, "decks")), ((20, 18), ((), (4,))))

    def test_a_draw_that_nothing_comes_of(self):
        fight = Fight([["a 0 5 - / instead draw all do none / when draw all do each score 1 all"], [PLAIN] * 4])
        come(fight, 0)
        all_let(fight)
        self.assertEqual(fight.log(), [(("draw", -2, 1), [(1, 0, 0, None)], None)])
        self.assertEqual((of_stand(fight, "pile"), of_stand(fight, "decks")), ((), ((), (4,))))

    def test_round_the_table(self):
        for players in (2, 3, 4):
            fight = Fight([[]] * players)
            turns = []
            for _ in range(2 * players):
                turns.append(of_stand(fight, "turn"))
                all_let(fight)
            self.assertEqual(turns, list(range(players)) * 2)

    def test_without_one_who_is_gone(self):
        for players, gone, want in ((3, 1, [0, 2, 0]), (3, 2, [0, 1, 0]), (4, 3, [0, 1, 2, 0]), (4, 2, [0, 1, 3, 0])):
            fight = with_gone(players, gone)
            turns = []
            for _ in want:
                turns.append(of_stand(fight, "turn"))
                self.assertEqual(of_stand(fight, "word"), turns[-1])
                all_let(fight)
            self.assertEqual(turns, want)
            self.assertEqual(of_stand(fight, "coins")[gone], 0)

    def test_when_the_one_who_has_the_turn_is_gone(self):
        fight = Fight([["a 0 5 - / when come self do each lose 20 mine"], [PLAIN], [PLAIN], []])
        come(fight, 0)
        all_let(fight)
        self.assertEqual(fight.stand()[1:], ((), 0, 1, 0, (5, 0, 0, 0), None))
        with self.assertRaises(NotNow) as taken:
            fight.play(1, 1)
        self.assertEqual(taken.exception.why, "turn")
        all_let(fight)
        self.assertEqual(fight.stand()[2:6], (1, 1, 0, (5, 5, 0, 0)))

    def test_gone_by_his_own_draw(self):
        fight = Fight([["a 0 5 - / instead draw not mine do as lose / instead lose all do more 30"], [PLAIN], []])
        come(fight, 0)
        all_let(fight)
        self.assertEqual(of_stand(fight, "gone"), (False, True, False))
        self.assertEqual(fight.stand()[1:], ((), 1, 2, 0, (5, 5, 0), None))


class Choices(unittest.TestCase):
    """A deed with two ways, a look with two rules to be put to a leaving, two rules called by one player."""

    DECKS = [["src 0 9 - / may 0 do one hurt 5 mark t / instead leave mark t do here / instead leave mark t do none",
              "ta 0 5 t", "tb 0 5 t"],
             ["see 0 9 - / when leave not mark t do each score 1 mine / when leave not mark t do each score 2 mine"]]

    def fight(self):
        fight = Fight(self.DECKS)
        for number in (0, 1, 2):
            come(fight, number)
        all_let(fight)
        come(fight, 3)
        fight.let(1)
        fight.use(0, 0, 0)
        return fight

    def test_the_deed_the_looks_and_the_piling_in_this_order(self):
        for hurt in (0, 1):
            for way in (0, 1):
                for first in (0, 1):
                    fight = self.fight()
                    all_let(fight, [hurt, way, first, 9])
                    leave, src = ("leave", 1 + hurt, 0), ("leave", 0, 0)
                    log = [(("hurt", 1 + hurt, 5), [], ("hurt", 1 + hurt, 5))]
                    pile = ()
                    if way == 1:
                        log.append((leave, [(0, 0, 2, None)], None))
                    else:
                        log += [(leave, [(0, 0, 1, src)], src), (leave, [], leave)]
                        pile = (("rule", 1, 3, first), ("rule", 1, 3, 1 - first))
                    self.assertEqual((fight.log(), of_stand(fight, "pile")), (log, pile))

    def test_where_none_is_left_the_way_0(self):
        for choices in (None, [], [0], [0, 0]):
            fight = self.fight()
            all_let(fight, choices)
            self.assertEqual(of_stand(fight, "pile"), (("rule", 1, 3, 0), ("rule", 1, 3, 1)))
            self.assertEqual(fight.log()[0][0], ("hurt", 1, 5))
        fight = self.fight()
        all_let(fight, [1])
        self.assertEqual(fight.log()[0][0], ("hurt", 2, 5))

    def test_choices_below_0_and_far_out(self):
        fight = self.fight()
        all_let(fight, [-1, 10 ** 60 - 2, -(10 ** 60 - 1)])
        self.assertEqual(fight.log()[0][0], ("hurt", 2, 5))
        self.assertEqual(of_stand(fight, "pile"), (("rule", 1, 3, 1), ("rule", 1, 3, 0)))

    def test_a_draw_takes_choices_too(self):
        decks = [["a 0 5 - / instead draw all do as lose / instead draw all do as score"], []]
        for choice, points, scores in ((0, (20, 19), (0, 0)), (1, (20, 20), (0, 1))):
            fight = Fight(decks)
            come(fight, 0)
            all_let(fight, [choice])
            self.assertEqual((of_stand(fight, "points"), of_stand(fight, "scores")), (points, scores))

    def test_a_come_takes_none(self):
        fight = Fight([["a 0 5 - / when come self do each score 1 all / when come self do each score 2 all"], []])
        come(fight, 0, [1])
        self.assertEqual(of_stand(fight, "pile"), (("rule", 0, 0, 1), ("rule", 0, 0, 0)))

    def test_those_left_are_dropped(self):
        fight = self.fight()
        all_let(fight, [1, 1, 1, 1, 1])
        ahead = fight.stand()
        other = self.fight()
        all_let(other, [1, 1])
        self.assertEqual(other.stand(), ahead)

    def test_the_choices_handed_in_stay(self):
        choices = [1, 0, 1]
        fight = self.fight()
        fight.let(0, choices)
        fight.let(1, choices)
        self.assertEqual(choices, [1, 0, 1])


class Reasons(unittest.TestCase):
    DECKS = [["a 0 5 - / may 2 do each score 1 mine / hold gain m self", "b 3 5 -", "c 6 5 -"],
             ["d 0 5 - / may 6 do each score 1 mine / may 0 do each score 1 mine", "e 9 5 -"]]

    def refused(self, fight, why, name, *args):
        ahead = (fight.stand(), fight.log(), fight.many(), [fight.may_do(player) for player in range(4)])
        with self.assertRaises(NotNow) as taken:
            getattr(fight, name)(*args)
        card = args[1] if name != "let" else None
        self.assertEqual((taken.exception.why, taken.exception.card), (why, card), (name, args))
        self.assertEqual((fight.stand(), fight.log(), fight.many(),
                          [fight.may_do(player) for player in range(4)]), ahead)

    def ended(self):
        fight = with_gone(2, 1, [[PLAIN], [PLAIN]])
        self.assertEqual(of_stand(fight, "over"), ("won", 0))
        return fight

    def test_over_goes_ahead_of_all(self):
        fight = self.ended()
        for player in range(4):
            for number in (0, 1, 2, 7, -1):
                self.refused(fight, "over", "play", player, number)
                self.refused(fight, "over", "use", player, number, 0)
            self.refused(fight, "over", "let", player)
            self.refused(fight, "over", "let", player, [1])

    def test_word(self):
        fight = Fight(self.DECKS)
        for player in (1, 2, 3):
            for number in (0, 3, 9, -4):
                self.refused(fight, "word", "play", player, number)
                self.refused(fight, "word", "use", player, number, 0)
            self.refused(fight, "word", "let", player)
        fight.let(0)
        self.refused(fight, "word", "let", 0, [4])
        self.refused(fight, "word", "play", 0, 0)

    def test_turn(self):
        fight = Fight(self.DECKS)
        fight.let(0)
        # Behind it stand, too: not in the hand, too few coins.
        for number in (3, 4, 0, 99, -1):
            self.refused(fight, "turn", "play", 1, number)

    def test_turn_for_a_pile_that_is_not_empty(self):
        fight = Fight(self.DECKS)
        fight.play(0, 0)
        for number in (1, 2, 0, 3, 99, -1):
            self.refused(fight, "turn", "play", 0, number)

    def test_hand(self):
        fight = Fight(self.DECKS)
        for number in (3, 4, 5, 99, -1, -3, 10 ** 59):
            self.refused(fight, "hand", "play", 0, number)
        come(fight, 0)
        self.refused(fight, "hand", "play", 0, 0)

    def test_hand_not_the_deck(self):
        fight = Fight([[PLAIN] * 4, []])
        self.refused(fight, "hand", "play", 0, 3)

    def test_coins_of_playing(self):
        fight = Fight(self.DECKS)
        self.refused(fight, "coins", "play", 0, 2)
        come(fight, 1)
        self.refused(fight, "coins", "play", 0, 2)
        come(fight, 0)
        fight.use(0, 0, 0)
        self.assertEqual(of_stand(fight, "coins"), (0, 0))
        self.refused(fight, "coins", "use", 0, 0, 0)

    def test_card(self):
        fight = Fight(self.DECKS)
        for number in (0, 1, 3, 99, -1, 10 ** 59):
            for place in (0, 1, 5, -1):
                self.refused(fight, "card", "use", 0, number, place)
        come(fight, 0)
        all_let(fight)
        self.refused(fight, "card", "use", 1, 0, 0)
        self.refused(fight, "card", "use", 1, 0, 7)

    def test_card_by_the_keeper_in_the_sight(self):
        fight = Fight([["a 0 5 t / may 9 do each score 1 mine"], ["b 0 5 - / hold steal mark t"]])
        come(fight, 0)
        all_let(fight)
        come(fight, 1)
        self.refused(fight, "coins", "use", 1, 0, 0)
        fight.let(1)
        self.refused(fight, "card", "use", 0, 0, 0)

    def test_rule(self):
        fight = Fight(self.DECKS)
        come(fight, 0)
        for place in (1, 2, 3, -1, -2, -3, 10 ** 59, -(10 ** 59)):
            self.refused(fight, "rule", "use", 0, 0, place)
        come(fight, 1)
        self.refused(fight, "rule", "use", 0, 1, 0)

    def test_rule_goes_ahead_of_coins(self):
        fight = Fight([["a 5 5 - / may 1 do each score 1 mine"], []])
        come(fight, 0)
        self.refused(fight, "coins", "use", 0, 0, 0)
        self.refused(fight, "rule", "use", 0, 0, 1)

    def test_one_who_is_gone(self):
        fight = with_gone(3, 1, [[], [PLAIN], []])
        self.refused(fight, "word", "let", 1)
        self.refused(fight, "word", "play", 1, 1)
        all_let(fight)
        self.refused(fight, "word", "let", 1)

    def test_a_refused_deed_keeps_the_log(self):
        fight = Fight(self.DECKS)
        come(fight, 0)
        log = fight.log()
        self.assertEqual(len(log), 1)
        self.refused(fight, "hand", "play", 0, 9)
        self.assertEqual(fight.log(), log)


class MayDo(unittest.TestCase):
    def test_of_each_player(self):
        fight = Fight(Reasons.DECKS)
        self.assertEqual(fight.may_do(0), [("play", 0), ("play", 1), ("let",)])
        for player in (1, 2, 3):
            self.assertEqual(fight.may_do(player), [])
        come(fight, 0)
        self.assertEqual(fight.may_do(0), [("play", 1), ("use", 0, 0), ("let",)])
        fight.use(0, 0, 0)
        self.assertEqual(fight.may_do(0), [("use", 0, 0), ("let",)])
        fight.let(0)
        self.assertEqual(fight.may_do(0), [])
        self.assertEqual(fight.may_do(1), [("let",)])

    def test_by_number_and_place(self):
        two = "a 0 5 - / may 0 do each score 1 mine / when draw all do each draw 1 all / may 1 do each score 1 mine"
        fight = Fight([[two, two, "b 0 5 -", "c 0 5 -"], []])
        come(fight, 1)
        come(fight, 0)
        self.assertEqual(fight.may_do(0), [("play", 2), ("use", 0, 0), ("use", 0, 2), ("use", 1, 0), ("use", 1, 2),
                                           ("let",)])

    def test_when_it_is_not_his_turn(self):
        fight = Fight([[], ["a 0 5 - / may 6 do each score 1 mine / may 5 do each score 1 mine", PLAIN]])
        all_let(fight)
        come(fight, 0)
        all_let(fight)
        self.assertEqual((fight.may_do(0), fight.may_do(1)), ([("let",)], []))
        fight.let(0)
        self.assertEqual((fight.may_do(0), fight.may_do(1)), ([], [("use", 0, 1), ("let",)]))

    def test_of_one_who_is_gone_and_when_the_fight_is_over(self):
        fight = with_gone(3, 2, [[], [], [PLAIN]])
        self.assertEqual([fight.may_do(player) for player in range(4)], [[("let",)], [], [], []])
        fight = with_gone(2, 1, [[PLAIN], [PLAIN]])
        self.assertEqual([fight.may_do(player) for player in range(4)], [[], [], [], []])

    def test_of_a_mute_card(self):
        fight = Fight([["a 0 5 - / hold mute self / may 0 do each score 1 mine"], []])
        come(fight, 0)
        self.assertEqual(fight.may_do(0), [("use", 0, 1), ("let",)])


class Logs(unittest.TestCase):
    def test_behind_each_sort_of_deed(self):
        fight = Fight([["a 0 5 - / may 0 do each hurt 2 self / may 0 do each hurt 5 self / may 0 do one hurt 1 mark x"],
                       [PLAIN] * 4])
        self.assertEqual(fight.log(), [])
        fight.play(0, 0)
        self.assertEqual(fight.log(), [])
        fight.let(0)
        self.assertEqual(fight.log(), [])
        fight.let(1)
        self.assertEqual(fight.log(), [(("come", 0, 0), [], ("come", 0, 0))])
        fight.use(0, 0, 0)
        self.assertEqual(fight.log(), [])
        all_let(fight)
        self.assertEqual(fight.log(), [(("hurt", 0, 2), [], ("hurt", 0, 2))])
        fight.use(0, 0, 2)
        all_let(fight)
        self.assertEqual(fight.log(), [])
        fight.use(0, 0, 1)
        all_let(fight)
        self.assertEqual(fight.log(), [(("hurt", 0, 5), [], ("hurt", 0, 5)), (("leave", 0, 0), [], ("leave", 0, 0))])
        all_let(fight)
        self.assertEqual(fight.log(), [(("draw", -2, 1), [], ("draw", -2, 1))])

    def test_a_come_and_the_looks_behind_it(self):
        fight = Fight([["a 0 0 -"], []])
        come(fight, 0)
        self.assertEqual(fight.log(), [(("come", 0, 0), [], ("come", 0, 0)), (("leave", 0, 0), [], ("leave", 0, 0))])
        self.assertEqual((of_stand(fight, "lying"), of_stand(fight, "heap")), ((), (0,)))

    def test_trails(self):
        fight = Fight([["a 0 5 - / may 0 do each hurt 9 all / instead hurt self do less 9"], []])
        come(fight, 0)
        fight.use(0, 0, 0)
        all_let(fight)
        self.assertEqual(fight.log(), [(("hurt", 0, 9), [(0, 0, 1, ("hurt", 0, 0))], ("hurt", 0, 0))])


class Apart(unittest.TestCase):
    def fight(self):
        fight = Fight([["a 0 5 m / may 0 do each hurt 9 all / instead hurt self do less 9", "b 1 2 -"], [PLAIN] * 4])
        come(fight, 0)
        fight.use(0, 0, 0)
        all_let(fight)
        return fight

    def told(self, fight):
        return (fight.stand(), fight.log(), fight.may_do(0), fight.owners(), fight.many(),
                [(show_card(card), card.name, card.cost, card.force, card.marks) for card in fight.cards()])

    def test_the_decks_handed_in_stay_and_may_change(self):
        decks = [["a 0 5 -"], ["b 0 5 -", "c 0 5 -"]]
        fight = Fight(decks)
        come(fight, 0)
        all_let(fight)
        self.assertEqual(decks, [["a 0 5 -"], ["b 0 5 -", "c 0 5 -"]])
        ahead = self.told(fight)
        decks[1].clear()
        decks.pop()
        self.assertEqual(self.told(fight), ahead)

    def test_what_was_told_is_the_asker_s_own(self):
        fight = self.fight()
        ahead = self.told(fight)
        fight.log()[0][1].clear()
        fight.log().clear()
        fight.may_do(0).clear()
        fight.owners().append(3)
        fight.owners()[0] = 1
        fight.cards().clear()
        fight.cards()[0].force = 99
        fight.cards()[0].rules = ()
        fight.cards()[0].marks = ("z",)
        fight.cards()[1].cost = 77
        self.assertEqual(self.told(fight), ahead)
        fight.use(0, 0, 0)
        all_let(fight)
        self.assertEqual((fight.stand(), fight.log()), ahead[:2])

    def test_what_was_told_stays_when_the_fight_goes_on(self):
        fight = self.fight()
        stand, log, may, owners, cards = fight.stand(), fight.log(), fight.may_do(0), fight.owners(), fight.cards()
        shown = [show_card(card) for card in cards]
        ahead = (repr(stand), repr(log), repr(may), repr(owners), shown)
        come(fight, 1)
        all_let(fight)
        come(fight, 2)
        fight.back(3)
        self.assertEqual((repr(stand), repr(log), repr(may), repr(owners), [show_card(card) for card in cards]), ahead)

    def test_the_same_is_told_again(self):
        fight = self.fight()
        self.assertEqual(self.told(fight), self.told(fight))
        self.assertEqual(fight.cards(), fight.cards())
        self.assertEqual(self.told(self.fight()), self.told(self.fight()))

    def test_a_stand_can_not_be_changed(self):
        def kinds(value):
            parts = value if isinstance(value, (tuple, list)) else ()
            return {type(value)}.union(*[kinds(one) for one in parts])

        self.assertEqual(kinds(self.fight().stand()), {tuple, int, str, bool, type(None)})

    def test_two_fights_are_apart(self):
        decks = [["a 0 5 -"], []]
        one, other = Fight(decks), Fight(decks)
        ahead = self.told(other)
        come(one, 0)
        self.assertEqual(self.told(other), ahead)


class SecondTelling(unittest.TestCase):
    """Whole fights by chance, told by the program and by the helper."""

    def deed_of(self, rng, plain):
        """A deed that may be done, or now and then any deed."""
        if rng.random() < 0.25:
            player, number = rng.randrange(4), rng.randrange(-1, len(plain.table.cards) + 1)
            use = ("use", player, number, rng.randrange(-1, 4))
            return rng.choice((("play", player, number), use, ("let", player)))
        deeds = [deed for deed in plain.may_do(plain.word) if deed != ("let",)]
        if deeds and rng.random() < (0.7 if len(plain.pile) < 3 else 0.15):
            deed = rng.choice(deeds)
            return (deed[0], plain.word) + deed[1:]
        return ("let", plain.word)

    def do(self, fight, plain, deed, choices):
        why = plain.reason(deed)
        if why is not None:
            with self.assertRaises(NotNow) as taken:
                getattr(fight, deed[0])(*deed[1:])
            self.assertEqual((taken.exception.why, taken.exception.card), (why, (deed + (None,))[2]))
        elif deed[0] == "let":
            fight.let(deed[1], choices)
            plain.let(choices)
        else:
            getattr(fight, deed[0])(*deed[1:])
            getattr(plain, deed[0])(*deed[1:])

    def test_alike(self):
        ends = {}
        for k, rng in enumerate(seeded(160)):
            decks = random_decks(rng, rng.randrange(2, 5))
            if k % 3 == 0:
                decks = [[FIERCE] + deck[:3] for deck in decks]
            fight, plain = Fight(decks), PlainFight(*begun(decks))
            for step in range(90):
                self.do(fight, plain, self.deed_of(rng, plain), random_choices(rng))
                self.assertEqual((fight.stand(), fight.log()), (plain.stand(), plain.log), (k, step))
                if step % 4 == 0 or plain.over is not None:
                    self.assertEqual([fight.may_do(p) for p in range(4)], [plain.may_do(p) for p in range(4)])
                if plain.over is not None:
                    break
            ends[plain.over and plain.over[0]] = ends.get(plain.over and plain.over[0], 0) + 1
        self.assertGreater(ends.get("won", 0), 10, ends)


if __name__ == "__main__":
    unittest.main()
