"""Rings: where they begin, how many stands they have, and where there is none."""

import unittest

from helper import all_let, come, do, of_stand, plain_of, random_deed, seeded, unscored, whole
from turnstack.errors import NotSame
from turnstack.fight import Fight
from turnstack.rings import ring

START = "when come self do each score 0 mine"
# Each scoring calls the rule of the scoring again.
LOOP = f"r 0 9 x / {START} / when score mine do each score 3 mine"
TWO = f"r 0 9 x / {START} / when score mine do each lose 0 mine / when lose mine do each score 3 mine"
PLAIN = "c 0 5 -"
NOTHING = "when come mark x do each hurt 1 mark z"


def begun(text, players=2, others=None):
    """A fight in which the card has just come, and what its coming called waits."""
    fight = Fight([[text]] + ([[]] * (players - 1) if others is None else others))
    come(fight, 0)
    return fight


def piled(many, players=2):
    """Ones by which nothing happens wait, so many, and under them the one that leads into the ring."""
    cards = ["n 0 9 - / " + " / ".join([NOTHING] * len(part)) for part in
             [range(many)[k:k + 3] for k in range(0, many, 3)]]
    fight = Fight([cards + [LOOP]] + [[]] * (players - 1))
    for number in range(len(cards)):
        while number not in of_stand(fight, "hands")[0] or of_stand(fight, "turn") != 0:
            all_let(fight)
        come(fight, number)
    while len(cards) not in of_stand(fight, "hands")[0] or of_stand(fight, "turn") != 0:
        all_let(fight)
    come(fight, len(cards), [many])
    return fight


def one_by_one(fight):
    """What a ring is, by the words: the lettings are done one by one in a second telling of the fight."""
    plain = plain_of(fight)
    stands = [unscored(plain.stand())]
    while plain.over is None and plain.pile and plain.may_do(plain.word) == [("let",)] and len(stands) < 61:
        plain.let([])
        stands.append(unscored(plain.stand()))
        if stands[-1] in stands[:-1]:
            begin = stands.index(stands[-1])
            return begin, len(stands) - 1 - begin
    return None


class Found(unittest.TestCase):
    def test_from_the_first_stand_on(self):
        for players in (2, 3, 4):
            fight = begun(LOOP, players)
            all_let(fight)
            self.assertEqual(ring(fight), (0, players))

    def test_one_that_begins_later(self):
        for players in (2, 3, 4):
            self.assertEqual(ring(begun(LOOP, players)), (players, players))
            self.assertEqual(ring(piled(1, players)), (2 * players, players))
            self.assertEqual(ring(piled(5, players)), (6 * players, players))

    def test_asked_amid_the_lettings(self):
        fight = begun(LOOP, 3)
        found = []
        for _ in range(7):
            found.append(ring(fight))
            fight.let(of_stand(fight, "word"))
        self.assertEqual(found, [(3, 3), (2, 3), (1, 3), (0, 3), (0, 3), (0, 3), (0, 3)])

    def test_no_ring_has_fewer_stands_than_players(self):
        # Each letting makes passes another number: so one round of all players is the shortest ring.
        fight = begun(LOOP)
        all_let(fight)
        ahead = fight.stand()
        fight.let(0)
        self.assertNotEqual(unscored(fight.stand()), unscored(ahead))
        fight.let(1)
        self.assertEqual(unscored(fight.stand()), unscored(ahead))

    def test_of_several_that_wait_in_turn(self):
        for players in (2, 3, 4):
            fight = begun(TWO, players)
            self.assertEqual(ring(fight), (players, 2 * players))
            all_let(fight)
            self.assertEqual(ring(fight), (0, 2 * players))

    def test_marks_that_go_and_come(self):
        text = "r 0 9 - / when come self do each gain a self / when gain all do each lack a self" \
               " / when lack all do each gain a self"
        self.assertEqual(ring(begun(text)), (2, 4))

    def test_a_mark_that_stays(self):
        # The mark is there from the second time on only.
        fight = begun(f"r 0 9 - / {START} / when score mine do each gain a self / when gain all do each score 1 mine")
        self.assertEqual(ring(fight), (4, 4))

    def test_cards_that_are_drawn_first(self):
        text = f"r 0 9 - / {START} / when score mine do each draw 1 mine / when draw all do each score 1 mine"
        for many, begin in ((0, 2), (1, 4), (2, 8), (3, 12)):
            fight = Fight([[text, PLAIN, PLAIN] + [PLAIN] * many, []])
            come(fight, 0)
            self.assertEqual(ring(fight), (begin, 4), many)

    def test_scores_grow(self):
        for amount in (0, 1, 999):
            for whom in ("mine", "all", "not mine"):
                fight = begun(f"r 0 9 - / {START} / when score all do each score {amount} {whom}")
                all_let(fight)
                found = None if whom == "all" else (0, 2)
                self.assertEqual(ring(fight), found, (amount, whom))

    def test_without_choices(self):
        fight = begun(f"r 0 9 - / {START} / when score all do one score 3 all / instead score not mine do none")
        self.assertEqual(ring(fight), (2, 2))
        all_let(fight)
        all_let(fight, [1])
        self.assertEqual((of_stand(fight, "pile"), ring(fight)), ((), None))

    def test_what_waits_under_it_stays(self):
        text = f"r 0 9 x / {START} / {START} / when score mine do each score 3 mine"
        fight = begun(text)
        self.assertEqual(len(of_stand(fight, "pile")), 2)
        self.assertEqual(ring(fight), (2, 2))
        all_let(fight)
        self.assertEqual((len(of_stand(fight, "pile")), ring(fight)), (2, (0, 2)))

    def test_cards_in_hands_do_not_matter(self):
        fight = begun(LOOP, 2, [[PLAIN] * 4])
        self.assertEqual(ring(fight), (2, 2))
        fight = Fight([[LOOP, PLAIN, PLAIN, PLAIN], [PLAIN]])
        come(fight, 0)
        self.assertEqual(ring(fight), (2, 2))

    def test_a_rule_that_costs_too_much(self):
        fight = begun("r 0 9 - / when come self do each score 0 mine / when score mine do each score 3 mine"
                      " / may 6 do each score 1 mine")
        self.assertEqual(ring(fight), (2, 2))

    def test_with_one_gone(self):
        fight = Fight([[LOOP, "s 0 9 - / when come self do one lose 20 not mine"], [], []])
        come(fight, 1)
        all_let(fight)
        self.assertEqual(of_stand(fight, "gone"), (False, True, False))
        come(fight, 0)
        self.assertEqual(ring(fight), (2, 2))

    def test_one_who_goes_on_the_way(self):
        text = "r 0 9 - / when come self do one lose 20 not mine / when lose not mine do each score 0 mine" \
               " / when score mine do each score 1 mine"
        # Three lettings, then two and two: the ring is of the two who are left.
        self.assertEqual(ring(begun(text, 3)), (5, 2))

    def test_it_is_what_may_be_done_again(self):
        for text in (LOOP, TWO):
            for players in (2, 3):
                fight = begun(text, players)
                begin, many = ring(fight)
                for _ in range(begin + many):
                    fight.let(of_stand(fight, "word"))
                for number in range(1, begin + many):
                    if number != many:
                        with self.assertRaises(NotSame):
                            fight.again(number, 1)
                fight.again(many, 10 ** 59)
                self.assertEqual(of_stand(fight, "scores")[0], 3 * (1 + 10 ** 59))
                self.assertEqual(ring(fight), (0, many))


class NotFound(unittest.TestCase):
    def test_an_empty_pile(self):
        fight = Fight([[], []])
        self.assertIsNone(ring(fight))
        # With coins and decks that stay as they are, turns alone would lead back to this stand.
        for _ in range(3):
            all_let(fight)
        self.assertIsNone(ring(fight))
        fight.let(1)
        self.assertIsNone(ring(fight))

    def test_where_the_pile_gets_empty(self):
        fight = Fight([["r 0 9 - / when draw mine do each score 1 mine"], []])
        come(fight, 0)
        for _ in range(4):
            all_let(fight)
        while of_stand(fight, "turn") != 0 or not of_stand(fight, "pile"):
            all_let(fight)
        self.assertEqual(of_stand(fight, "coins"), (5, 5))
        # The same waits again at each of his turns: but the pile was empty between.
        self.assertIsNone(ring(fight))

    def test_a_played_card_that_comes(self):
        fight = Fight([[PLAIN], []])
        fight.play(0, 0)
        self.assertIsNone(ring(fight))

    def test_where_the_fight_is_won(self):
        fight = begun("r 0 9 - / when come self do each lose 1 not mine / when lose all do each lose 1 not mine")
        self.assertIsNone(ring(fight))
        while of_stand(fight, "over") is None:
            all_let(fight)
            self.assertIsNone(ring(fight))
        self.assertEqual((of_stand(fight, "over"), len(of_stand(fight, "pile"))), (("won", 0), 1))

    def test_won_while_a_ring_s_rule_waits(self):
        # The one who is left would let go for ever, with the same rule waiting: but the fight is over.
        text = "r 0 9 - / when come self do each score 1 mine / when come self do each lose 20 not mine" \
               " / when score mine do each score 1 mine"
        fight = begun(text)
        self.assertIsNone(ring(fight))
        all_let(fight)
        self.assertEqual((of_stand(fight, "over"), len(of_stand(fight, "pile"))), (("won", 0), 1))
        self.assertIsNone(ring(fight))

    def test_where_nobody_is_left(self):
        text = "r 0 9 - / when come self do each lose 20 all / when lose all do each score 1 all"
        self.assertIsNone(ring(begun(text)))

    def test_where_the_pile_gets_full(self):
        text = f"r 0 9 - / {START} / when score all do each score 1 all / when score all do each score 2 all"
        fight = begun(text)
        self.assertIsNone(ring(fight))
        while of_stand(fight, "over") is None:
            all_let(fight)
        self.assertEqual((of_stand(fight, "over"), len(of_stand(fight, "pile"))), (("full",), 40))
        self.assertIsNone(ring(fight))

    def test_wounds_that_grow(self):
        text = "r 0 99 - / when come self do each hurt 0 self / when hurt self do each hurt 1 self"
        self.assertIsNone(ring(begun(text)))
        text = "r 0 9 - / when come self do each hurt 0 self / when hurt self do each hurt 1 self"
        self.assertIsNone(ring(begun(text)))
        text = "r 0 9 - / when come self do each hurt 0 self / when hurt self do each hurt 0 self"
        self.assertEqual(ring(begun(text)), (2, 2))

    def test_the_one_who_has_the_word_may_use_a_rule(self):
        fight = begun("r 0 9 - / when come self do each score 0 mine / when score mine do each score 3 mine"
                      " / may 5 do each hurt 0 self")
        self.assertIsNone(ring(fight))
        all_let(fight)
        self.assertIsNone(ring(fight))
        fight.use(0, 0, 2)
        self.assertEqual(of_stand(fight, "coins"), (0, 0))
        self.assertEqual(ring(fight), (2, 2))

    def test_another_one_may_use_a_rule_later(self):
        for cost, found in ((5, None), (6, (2, 2))):
            fight = Fight([[LOOP], [f"u 0 5 - / may {cost} do each hurt 0 self"]])
            all_let(fight)
            come(fight, 1)
            all_let(fight)
            come(fight, 0)
            self.assertEqual((of_stand(fight, "word"), fight.may_do(0)), (0, [("let",)]))
            self.assertEqual(ring(fight), found)

    def test_sixty_times_and_no_more(self):
        # Two players: four lettings behind those that do nothing the same stand is there again.
        for many, found in ((0, (2, 2)), (10, (22, 2)), (27, (56, 2)), (28, (58, 2)), (29, None), (30, None)):
            self.assertEqual(ring(piled(many)), found, many)

    def test_sixty_one(self):
        fight = piled(29)
        self.assertIsNone(ring(fight))
        fight.let(0)
        self.assertIsNone(ring(fight))
        fight.let(1)
        self.assertEqual(ring(fight), (58, 2))
        fight.let(0)
        self.assertEqual(ring(fight), (57, 2))

    def test_sixty_with_three_players(self):
        self.assertEqual([ring(piled(many, 3)) for many in (17, 18, 19)], [(54, 3), (57, 3), None])


class Apart(unittest.TestCase):
    def test_the_fight_stays_as_it_was(self):
        for fight in (begun(LOOP), begun(TWO, 3), piled(30), begun(PLAIN), Fight([[], []])):
            ahead = (whole(fight), fight.deeds())
            first = ring(fight)
            self.assertEqual((whole(fight), fight.deeds()), ahead)
            self.assertEqual(ring(fight), first)

    def test_the_log_stays(self):
        fight = begun(LOOP)
        all_let(fight)
        self.assertEqual(fight.log(), [(("score", -1, 0), [], ("score", -1, 0))])
        ring(fight)
        self.assertEqual(fight.log(), [(("score", -1, 0), [], ("score", -1, 0))])

    def card(self, rng):
        """A card whose rules are likely to call one another."""
        sorts = ("score 0", "score 1", "hurt 0", "hurt 1", "gain a", "lack a", "lose 0", "lose 3", "draw 1")
        one, other = rng.choice(sorts), rng.choice(sorts)
        rules = [f"when {here.split()[0]} {rng.choice(('all', 'mine', 'mine', 'self', 'mark a'))} do"
                 f" {rng.choice(('each', 'one'))} {there} {rng.choice(('all', 'mine', 'mine', 'self'))}"
                 for here, there in ((one, other), (other, one))]
        rules.append(rng.choice((f"when come self do each {one} mine",) * 4 + ("may 2 do each score 1 mine",)))
        return " / ".join([f"c 0 {rng.choice((2, 9))} {rng.choice(('a', '-'))}"] + rules)

    def test_by_chance(self):
        found = {}
        for rng in seeded(60, 4000):
            fight = Fight([[self.card(rng) for _ in range(2)] for _ in range(rng.choice((2, 2, 3)))])
            for _ in range(25):
                want = one_by_one(fight)
                self.assertEqual(ring(fight), want)
                found[want] = found.get(want, 0) + 1
                deed = random_deed(rng, fight)
                if deed is None:
                    break
                do(fight, deed)
        self.assertGreater(len(found), 15, found)
        self.assertGreater(sum(many for want, many in found.items() if want), 100, found)


if __name__ == "__main__":
    unittest.main()
