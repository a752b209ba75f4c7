"""What each player is told of a fight."""

import unittest

from helper import (
    all_let, come, come_in_turns, do, fight_card, of_stand, part, random_decks, random_deed, seeded, whole,
)
from turnstack.cards import show_card
from turnstack.fight import Fight
from turnstack.rings import ring
from turnstack.views import told

PARTS = ("points", "scores", "gone", "hand", "hands", "decks", "lying", "heap", "wounds", "pile", "turn", "word",
         "passes", "coins", "over", "sight", "texts")
WOLF = "wolf 1 3 fast,grey / hold more 1 both mine mark grey / may 1 do one hurt 2 not self"
FOX = "fox 0 2 red / when come self do each score 4 not mine"
HEN = "hen 2 1 -"
OWL = "owl 0 5 - / instead hurt self do less 1"
STRIKE = "s 0 9 - / when come self do one lose 20 not mine"


def of_told(fight, player, name):
    return told(fight, player)[PARTS.index(name)]


def numbers_told(fight, player):
    return [number for number, text in of_told(fight, player, "texts")]


class Parts(unittest.TestCase):
    def test_at_the_begin(self):
        fight = Fight([[WOLF, FOX, HEN, OWL], [HEN, OWL]])
        rest = ((), (), (0,) * 6, (), 0, 0, 0, (5, 0), None, [])
        self.assertEqual(told(fight, 0), ((20, 20), (0, 0), (False, False), (0, 1, 2), (3, 2), (1, 0)) + rest
                         + (((0, WOLF), (1, FOX), (2, HEN)),))
        self.assertEqual(told(fight, 1), ((20, 20), (0, 0), (False, False), (4, 5), (3, 2), (1, 0)) + rest
                         + (((4, HEN), (5, OWL)),))

    def test_amid_a_fight(self):
        fight = Fight([[WOLF, FOX, HEN, OWL], [HEN, OWL, FOX, WOLF]])
        come(fight, 0)
        all_let(fight)
        come(fight, 4)
        come(fight, 5)
        all_let(fight)
        fight.use(0, 0, 1)
        all_let(fight, [0])
        come(fight, 1)
        all_let(fight)
        fight.use(0, 0, 1)
        all_let(fight, [1])
        # The hen left; the owl has wounds; the draws of both turns are done.
        fight.use(0, 0, 1)
        fight.let(0)
        sight = [(0, 0, ("fast", "grey"), 4, False), (1, 0, ("red",), 2, False), (5, 1, (), 5, False)]
        same = ((20, 20), (0, 4), (False, False))
        lying = ((0, 5, 1), (4,), (0, 0, 0, 0, 0, 1, 0, 0), (("rule", 0, 0, 1),), 0, 1, 1, (2, 3), None, sight)
        self.assertEqual(told(fight, 0), same + ((2, 3), (2, 2), (0, 0)) + lying
                         + (((0, WOLF), (1, FOX), (2, HEN), (3, OWL), (4, HEN), (5, OWL)),))
        self.assertEqual(told(fight, 1), same + ((6, 7), (2, 2), (0, 0)) + lying
                         + (((0, WOLF), (1, FOX), (4, HEN), (5, OWL), (6, FOX), (7, WOLF)),))

    def test_of_three_and_of_four(self):
        for players in (3, 4):
            decks = [[FOX, HEN, OWL, WOLF][:player + 1] + [HEN] * player for player in range(players)]
            fight = Fight(decks)
            come(fight, 0)
            for player in range(players):
                view = told(fight, player)
                table = fight.stand()[0]
                self.assertEqual(view[:3], table[:3])
                self.assertEqual(view[3], part(table, "hands")[player])
                self.assertEqual(view[4], (0,) + (3,) * (players - 1))
                self.assertEqual(view[5], tuple(max(0, len(deck) - 3) for deck in decks))
                self.assertEqual(view[6:9], ((0,), (), (0,) * sum(map(len, decks))))
                self.assertEqual(view[9:15], fight.stand()[1:])
                self.assertEqual(view[15], [(0, 0, ("red",), 2, False)])
                self.assertEqual(view[16], ((0, FOX),) + tuple((n, show_card(fight.cards()[n])) for n in view[3]))
            self.assertEqual(len({told(fight, player)[3] for player in range(players)}), players)

    def test_a_card_that_is_played_and_waits(self):
        fight = Fight([[WOLF, FOX], [HEN], [OWL]])
        fight.play(0, 1)
        self.assertEqual([of_told(fight, p, "pile") for p in range(3)], [(("card", 0, 1, 0),)] * 3)
        self.assertEqual([of_told(fight, p, "texts") for p in range(3)],
                         [((0, WOLF), (1, FOX)), ((1, FOX), (2, HEN)), ((1, FOX), (3, OWL))])

    def test_a_rule_that_waits_of_a_card_that_left(self):
        text = "a 0 1 - / when leave self do each score 1 mine"
        fight = Fight([[text + " / when come self do each leave all"], [HEN]])
        come(fight, 0)
        all_let(fight)
        self.assertEqual(of_stand(fight, "pile"), (("rule", 0, 0, 0),))
        self.assertEqual((of_told(fight, 1, "heap"), numbers_told(fight, 1)), ((0,), [0, 1]))

    def test_a_card_that_another_one_keeps(self):
        fight = Fight([["a 0 5 t"], ["b 0 5 - / hold steal mark t", HEN]])
        come_in_turns(fight, (0, 1))
        for player in (0, 1):
            self.assertEqual(of_told(fight, player, "sight"), [(0, 1, ("t",), 5, False), (1, 1, (), 5, False)])

    def test_marks_and_force_in_the_sight_and_the_text_as_it_was(self):
        text = "a 0 5 t / hold lack t all / hold gain u all / hold less 3 all"
        fight = Fight([[text], []])
        come(fight, 0)
        self.assertEqual(of_told(fight, 1, "sight"), [(0, 0, ("u",), 2, False)])
        self.assertEqual(of_told(fight, 1, "texts"), ((0, text),))

    def test_to_one_who_is_gone(self):
        fight = Fight([[STRIKE, HEN], [WOLF, FOX, OWL, HEN], [HEN]])
        come(fight, 0)
        all_let(fight)
        self.assertEqual(told(fight, 1)[:3], ((20, 0, 20), (0, 0, 0), (False, True, False)))
        self.assertEqual(told(fight, 1)[3:6], ((2, 3, 4), (1, 3, 1), (0, 1, 0)))
        self.assertEqual(of_told(fight, 1, "texts"), ((0, STRIKE), (2, WOLF), (3, FOX), (4, OWL)))
        self.assertEqual(of_told(fight, 2, "texts"), ((0, STRIKE), (6, HEN)))

    def test_cards_in_the_heap_of_one_who_is_gone(self):
        fight = Fight([[WOLF], [STRIKE], [HEN]])
        come(fight, 0)
        all_let(fight)
        come(fight, 1)
        all_let(fight)
        self.assertEqual((of_told(fight, 2, "heap"), numbers_told(fight, 2)), ((0,), [0, 1, 2]))

    def test_when_it_is_over(self):
        fight = Fight([["a 0 5 - / when come self do each lose 25 not mine"], [HEN]])
        come(fight, 0)
        all_let(fight)
        for player in (0, 1):
            self.assertEqual(told(fight, player)[0], (20, -5))
            self.assertEqual(of_told(fight, player, "over"), ("won", 0))

    def test_each_card_is_told_by_its_own_text(self):
        texts = ["a 0 5 -", "b 0 5 a,b,c / hold per mine all", "c 12 345 z / may 0 do one leave not self"]
        fight = Fight([texts, []])
        come(fight, 1)
        fight.play(0, 0)
        self.assertEqual(of_told(fight, 0, "texts"), tuple(enumerate(texts)))
        self.assertEqual(of_told(fight, 1, "texts"), ((0, texts[0]), (1, texts[1])))

    def test_without_a_card(self):
        for players in (2, 3, 4):
            fight = Fight([[]] * players)
            for player in range(players):
                self.assertEqual(told(fight, player), (
                    (20,) * players, (0,) * players, (False,) * players, (), (0,) * players, (0,) * players, (), (), (),
                    (), 0, 0, 0, (5,) + (0,) * (players - 1), None, [], ()))

    def test_by_chance_the_parts_are_those_of_the_stand(self):
        for rng in seeded(25, 300):
            decks = random_decks(rng, rng.randrange(2, 5))
            texts = [text for deck in decks for text in deck]
            fight = Fight(decks)
            for _ in range(40):
                table = fight.stand()[0]
                for player in range(len(decks)):
                    view = dict(zip(PARTS, told(fight, player)))
                    for name in ("points", "scores", "gone", "lying", "heap", "wounds"):
                        self.assertEqual(view[name], part(table, name))
                    for name in ("pile", "turn", "word", "passes", "coins", "over"):
                        self.assertEqual(view[name], of_stand(fight, name))
                    self.assertEqual(view["hand"], part(table, "hands")[player])
                    for name in ("hands", "decks"):
                        self.assertEqual(view[name], tuple(map(len, part(table, name))))
                    hidden = {n for deck in part(table, "decks") for n in deck}
                    hidden |= {n for p, hand in enumerate(part(table, "hands")) if p != player for n in hand}
                    self.assertEqual(view["texts"], tuple((n, t) for n, t in enumerate(texts) if n not in hidden))
                    self.assertEqual(sorted(row[0] for row in view["sight"]), sorted(part(table, "lying")))
                deed = random_deed(rng, fight)
                if deed is None:
                    break
                do(fight, deed)


class Apart(unittest.TestCase):
    def fight(self):
        fight = Fight([[WOLF, FOX, HEN, OWL], [HEN, OWL]])
        come(fight, 0)
        fight.play(0, 1)
        return fight

    def test_what_is_told_is_the_asker_s_own(self):
        fight = self.fight()
        ahead = (whole(fight), [told(fight, player) for player in (0, 1)])
        told(fight, 0)[15].clear()
        told(fight, 1)[15].append((9, 9, (), 9, True))
        self.assertEqual((whole(fight), [told(fight, player) for player in (0, 1)]), ahead)

    def test_only_the_sight_is_a_list(self):
        def lists(value):
            own = [value] if isinstance(value, list) else []
            return own + [one for below in value for one in lists(below)] if isinstance(value, (list, tuple)) else []

        for player in (0, 1):
            view = told(self.fight(), player)
            self.assertIsInstance(view, tuple)
            self.assertEqual(lists(view), [view[15]])

    def test_what_was_told_stays_when_the_fight_goes_on(self):
        fight = self.fight()
        views = [told(fight, player) for player in (0, 1)]
        ahead = repr(views)
        all_let(fight)
        all_let(fight)
        all_let(fight)
        come(fight, 4)
        self.assertEqual(repr(views), ahead)
        fight.back(fight.many())
        self.assertEqual(repr(views), ahead)

    def test_the_fight_stays_as_it_was(self):
        fight = self.fight()
        ahead = (whole(fight), fight.deeds())
        for player in (0, 1):
            self.assertEqual(told(fight, player), told(fight, player))
        self.assertEqual((whole(fight), fight.deeds()), ahead)


class Hidden(unittest.TestCase):
    """Two fights in which cards in other hands and in decks alone have other texts."""

    def hidden(self, fight, player):
        told_ones = numbers_told(fight, player)
        return [n for n in range(len(fight.cards())) if n not in told_ones]

    def other_fight(self, rng, decks, fight, player):
        """The same deeds with the same decks, but for the hidden cards."""
        hidden, texts = self.hidden(fight, player), iter(range(100))
        other = Fight([[fight_card(rng) if next(texts) in hidden else text for text in deck] for deck in decks])
        for deed in fight.deeds():
            do(other, deed)
        return other, hidden

    def test_in_other_hands(self):
        one, other = Fight([[WOLF], [HEN, HEN]]), Fight([[WOLF], [OWL, FOX]])
        self.assertEqual(told(one, 0), told(other, 0))
        self.assertNotEqual(told(one, 1), told(other, 1))
        for fight in (one, other):
            come(fight, 0)
            fight.use(0, 0, 1)
        self.assertEqual(told(one, 0), told(other, 0))

    def test_in_decks_and_the_own_deck_too(self):
        one = Fight([[WOLF, WOLF, WOLF, HEN, HEN], [OWL, OWL, OWL, OWL, FOX]])
        other = Fight([[WOLF, WOLF, WOLF, FOX, OWL], [OWL, OWL, OWL, HEN, HEN]])
        for player in (0, 1):
            self.assertEqual(told(one, player), told(other, player))
        for fight in (one, other):
            all_let(fight)
        # The player 1 has drawn one that is another card there; the other player doesn't learn it.
        self.assertEqual(told(one, 0), told(other, 0))
        self.assertNotEqual(told(one, 1), told(other, 1))

    def test_in_the_hand_of_one_who_is_gone(self):
        fights = [Fight([[STRIKE], [text], []]) for text in (WOLF, HEN)]
        for fight in fights:
            come(fight, 0)
            all_let(fight)
        self.assertEqual(of_told(fights[0], 0, "gone"), (False, True, False))
        for player in (0, 2):
            self.assertEqual(told(fights[0], player), told(fights[1], player))

    def test_until_it_is_played(self):
        fights = [Fight([[text], [WOLF]]) for text in (OWL, FOX)]
        self.assertEqual(told(fights[0], 1), told(fights[1], 1))
        for fight in fights:
            fight.play(0, 0)
        self.assertNotEqual(told(fights[0], 1), told(fights[1], 1))

    def test_by_chance(self):
        steps = 0
        for rng in seeded(60, 7000):
            decks = random_decks(rng, rng.randrange(2, 5))
            # Hidden cards get texts without hold rules, so that there are never too many.
            fight = Fight(decks)
            for _ in range(rng.randrange(30)):
                deed = random_deed(rng, fight)
                if deed is not None:
                    do(fight, deed)
            player = rng.randrange(len(decks))
            other, hidden = self.other_fight(rng, decks, fight, player)
            for _ in range(25):
                self.assertEqual(told(fight, player), told(other, player))
                self.assertEqual((fight.log(), fight.may_do(player)), (other.log(), other.may_do(player)))
                self.assertEqual(ring(fight), ring(other))
                deed = random_deed(rng, fight)
                if deed is None or deed[0] == "play" and deed[2] in hidden:
                    break
                do(fight, deed)
                do(other, deed)
                if set(of_told(fight, player, "hand")) & set(hidden):
                    break
                steps += 1
        self.assertGreater(steps, 400)


if __name__ == "__main__":
    unittest.main()
