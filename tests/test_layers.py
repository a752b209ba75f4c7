import copy
import itertools
import random
import unittest

from helper import LAYER_WORDS, PlainLayers, lying_of, random_plains, row, told_sight
from turnstack.cards import show_card
from turnstack.layers import behind, changes, first_sight, layered, leans, reach, waits

ALL_WORDS = tuple(word for words in LAYER_WORDS for word in words)


def shown(lying):
    """Lying cards as plain values, to see whether something changed them."""
    return [(number, show_card(card), card.name, card.force, card.marks, len(card.rules), keeper, came, marks)
            for number, card, keeper, came, marks in lying]


def order_of(lying):
    return [change for change, _ in layered(lying)[1]]


class FirstSight(unittest.TestCase):
    def test_by_number_with_the_keepers_and_marks_handed_in(self):
        lying = [
            row(7, "a 1 4 grey", 2, 0, ("fast", "slow")),
            row(0, "b 1 0 -", 0, 9),
            row(3, "c 1 999 a,b", 1, -5, ()),
        ]
        sight = [(0, 0, (), 0, False), (3, 1, (), 999, False), (7, 2, ("fast", "slow"), 4, False)]
        for order in itertools.permutations(lying):
            self.assertEqual(first_sight(list(order)), sight)

    def test_no_hold_rule_counts_yet(self):
        lying = [row(0, "a 1 4 x / hold mute all / hold be 9 all / hold gain y all", 3, 0)]
        self.assertEqual(first_sight(lying), [(0, 3, ("x",), 4, False)])

    def test_its_kinds(self):
        sight = first_sight([row(0, "a 1 4 x", 3, 0)])
        self.assertIs(type(sight), list)
        self.assertEqual([type(value) for value in sight[0]], [int, int, tuple, int, bool])

    def test_no_lying_card(self):
        self.assertEqual(first_sight([]), [])
        self.assertEqual(changes([]), [])
        self.assertEqual(layered([]), ([], []))


class Changes(unittest.TestCase):
    def test_the_layer_of_each_word(self):
        for text, layer in (("mute", 0), ("steal", 1), ("gain a", 2), ("lack a", 2), ("be 1", 3), ("more 1", 4),
                            ("less 1", 4), ("per all", 4)):
            self.assertEqual(changes([row(6, f"c 1 1 - / hold {text} all", 0, 8)]), [(layer, 8, 6, 0)])

    def test_place_counts_all_rules(self):
        text = "c 1 1 - / when come all do each leave all / may 1 do one draw 1 mine / hold be 2 all"
        self.assertEqual(changes([row(4, text, 1, 3)]), [(3, 3, 4, 2)])
        text = "c 1 1 - / hold more 2 all / instead leave self do none / hold mute self"
        self.assertEqual(changes([row(4, text, 1, 3)]), [(0, 3, 4, 2), (4, 3, 4, 0)])

    def test_other_rules_are_none(self):
        text = "c 1 1 - / when gain all do each leave all / may 1 do one lack a mine / instead gain all do none"
        self.assertEqual(changes([row(4, text, 1, 3)]), [])

    def test_sorted_by_layer_then_came_then_number_then_place(self):
        lying = [
            row(0, "a 1 1 - / hold more 1 all / hold steal self / hold less 1 all", 0, 20),
            row(1, "b 1 1 - / hold steal all", 0, 3),
            row(2, "c 1 1 - / hold per all all / hold be 2 all", 0, -7),
        ]
        want = [(1, 3, 1, 0), (1, 20, 0, 1), (3, -7, 2, 1), (4, -7, 2, 0), (4, 20, 0, 0), (4, 20, 0, 2)]
        for order in itertools.permutations(lying):
            self.assertEqual(changes(list(order)), want)


class Reach(unittest.TestCase):
    """The sight handed in is another one than the first: it alone counts."""

    SIGHT = [
        (0, 1, ("a",), 5, False),
        (1, 0, ("a", "b"), -3, True),
        (2, 1, (), 2, False),
    ]

    def reach_of(self, rule, sight=None):
        lying = [row(2, "z 1 9 b", 0, 1), row(0, "x 1 1 - / may 1 do one draw 1 mine / hold " + rule, 0, 2, ("b",)),
                 row(1, "y 1 1 -", 1, 3)]
        change = changes(lying)[0]
        return reach(lying, self.SIGHT if sight is None else sight, change)

    def test_amounts(self):
        for rule, amount in (("mute", 0), ("steal", 1), ("gain c", "c"), ("lack a", "a"), ("be 7", 7), ("more 4", 4),
                             ("less 4", -4), ("be 0", 0), ("less 0", 0)):
            self.assertEqual(self.reach_of(rule + " all"), [(0, amount), (1, amount), (2, amount)])

    def test_per_counts_by_the_sight(self):
        for p, amount in (("all", 3), ("self", 1), ("mine", 2), ("not mine", 1), ("mark a", 2), ("mark c", 0),
                          ("force 2", 2), ("not force 0", 1), ("both mark a mine", 1), ("any mark b self", 2)):
            self.assertEqual(self.reach_of(f"per {p} not self"), [(1, amount), (2, amount)], p)

    def test_who_fits_by_the_sight(self):
        for whom, numbers in (("all", [0, 1, 2]), ("self", [0]), ("not self", [1, 2]), ("mine", [0, 2]),
                              ("not mine", [1]), ("mark a", [0, 1]), ("mark b", [1]), ("mark c", []),
                              ("force 5", [0]), ("force 2", [0, 2]), ("force 6", []), ("not force 0", [1])):
            self.assertEqual(self.reach_of("be 3 " + whom), [(number, 3) for number in numbers], whom)

    def test_a_mute_card_has_no_reach(self):
        mute = [(0, 1, ("a",), 5, True)] + self.SIGHT[1:]
        for rule in ("mute", "steal", "gain c", "lack a", "be 7", "more 4", "less 4", "per all"):
            self.assertEqual(self.reach_of(rule + " all", mute), [])

    def test_a_mute_card_is_reached_and_counted(self):
        self.assertEqual(self.reach_of("per mark b mark b"), [(1, 1)])

    def test_its_kinds(self):
        found = self.reach_of("more 4 all")
        self.assertIs(type(found), list)
        self.assertEqual({type(pair) for pair in found}, {tuple})

    def test_the_change_of_its_place(self):
        lying = [row(3, "x 1 1 - / hold more 1 self / hold more 2 all / hold less 3 all", 0, 2),
                 row(4, "y 1 1 -", 0, 0)]
        sight = first_sight(lying)
        self.assertEqual([reach(lying, sight, change) for change in changes(lying)],
                         [[(3, 1)], [(3, 2), (4, 2)], [(3, -3), (4, -3)]])


class Behind(unittest.TestCase):
    SIGHT = [
        (0, 0, ("b", "d"), 2, False),
        (1, 1, ("c",), 1, False),
        (2, 1, (), 0, True),
    ]

    def behind_of(self, rule, sight=None):
        lying = [row(1, "y 1 1 c", 1, 3), row(0, "x 1 2 b,d / hold " + rule, 0, 2), row(2, "z 1 0 -", 1, 1)]
        return behind(lying, self.SIGHT if sight is None else sight, changes(lying)[0])

    def test_mute(self):
        self.assertEqual(self.behind_of("mute not mark c"), [(0, 0, ("b", "d"), 2, True), self.SIGHT[1], self.SIGHT[2]])
        self.assertEqual(self.behind_of("mute not self"), [self.SIGHT[0], (1, 1, ("c",), 1, True), self.SIGHT[2]])

    def test_steal(self):
        self.assertEqual(self.behind_of("steal mark c"), [self.SIGHT[0], (1, 0, ("c",), 1, False), self.SIGHT[2]])
        self.assertEqual(self.behind_of("steal all"), [self.SIGHT[0], (1, 0, ("c",), 1, False), (2, 0, (), 0, True)])

    def test_gain(self):
        self.assertEqual(self.behind_of("gain c all"),
                         [(0, 0, ("b", "c", "d"), 2, False), self.SIGHT[1], (2, 1, ("c",), 0, True)])
        self.assertEqual(self.behind_of("gain a self"), [(0, 0, ("a", "b", "d"), 2, False)] + self.SIGHT[1:])

    def test_lack(self):
        self.assertEqual(self.behind_of("lack b all"), [(0, 0, ("d",), 2, False)] + self.SIGHT[1:])
        self.assertEqual(self.behind_of("lack c all"), [self.SIGHT[0], (1, 1, (), 1, False), self.SIGHT[2]])

    def test_forces(self):
        self.assertEqual([row[3] for row in self.behind_of("be 7 not self")], [2, 7, 7])
        self.assertEqual([row[3] for row in self.behind_of("more 7 all")], [9, 8, 7])
        self.assertEqual([row[3] for row in self.behind_of("less 2 all")], [0, -1, -2])
        self.assertEqual([row[3] for row in self.behind_of("per not mine mine")], [4, 1, 0])
        self.assertEqual([row[:3] + row[4:] for row in self.behind_of("more 7 all")],
                         [row[:3] + row[4:] for row in self.SIGHT])

    def test_forces_from_below_0(self):
        sight = [row[:3] + (-5, False) for row in self.SIGHT]
        self.assertEqual([row[3] for row in self.behind_of("more 3 all", sight)], [-2, -2, -2])
        self.assertEqual([row[3] for row in self.behind_of("less 3 self", sight)], [-8, -5, -5])
        self.assertEqual([row[3] for row in self.behind_of("be 0 self", sight)], [0, -5, -5])
        self.assertEqual([row[3] for row in self.behind_of("more 3 force 0", sight)], [-5, -5, -5])

    def test_of_a_mute_card_nothing_changes(self):
        sight = [(0, 0, ("b", "d"), 2, True)] + self.SIGHT[1:]
        for rule in ("mute", "steal", "gain a", "lack c", "be 7", "more 4", "less 4", "per all"):
            self.assertEqual(self.behind_of(rule + " all", sight), sight)

    def test_the_whole_reach_is_of_the_sight_ahead(self):
        # Each card fits or not ahead of all changes, not behind those of the cards with lesser numbers.
        lying = [row(0, "x 1 1 a / hold lack a both mark a any self mark a", 0, 0), row(1, "y 1 1 a", 0, 1)]
        self.assertEqual([row[2] for row in behind(lying, first_sight(lying), changes(lying)[0])], [(), ()])
        lying = [row(0, "x 1 1 - / hold steal mine", 0, 0), row(1, "y 1 1 -", 1, 1)]
        self.assertEqual([row[1] for row in behind(lying, first_sight(lying), changes(lying)[0])], [0, 1])


class Leaning(unittest.TestCase):
    def leanings(self, lying, sight=None):
        every = changes(lying)
        sight = first_sight(lying) if sight is None else sight
        told = [leans(lying, sight, one, other) for one in every for other in every]
        self.assertEqual({type(truth) for truth in told}, {bool})
        return [(one[2], other[2]) for one in every for other in every if leans(lying, sight, one, other)]

    def test_by_who_is_reached(self):
        lying = [row(0, "x 1 1 - / hold gain b mark a", 0, 0), row(1, "y 1 1 - / hold gain a self", 0, 1)]
        self.assertEqual(self.leanings(lying), [(0, 1)])
        lying = [row(0, "x 1 1 - / hold gain b mark a", 0, 0), row(1, "y 1 1 a / hold gain a self", 0, 1)]
        self.assertEqual(self.leanings(lying), [])
        lying = [row(0, "x 1 1 - / hold gain b mark a", 0, 0), row(1, "y 1 1 a / hold lack a all", 0, 1)]
        self.assertEqual(self.leanings(lying), [(0, 1)])

    def test_by_the_amount_of_a_per(self):
        lying = [row(0, "x 1 1 - / hold per force 2 self", 0, 0), row(1, "y 1 1 - / hold more 1 not mark z", 0, 1)]
        self.assertEqual(self.leanings(lying), [(0, 1)])

    def test_by_the_amount_of_a_steal(self):
        lying = [row(0, "x 1 1 - / hold steal mark m", 0, 0), row(1, "y 1 1 - / hold steal not mark m", 1, 1),
                 row(2, "z 1 1 m", 2, 2)]
        # The card 1 takes the card 0, so what 0 steals goes to another keeper; 0 doesn't touch 1.
        self.assertEqual(self.leanings(lying), [(0, 1)])

    def test_by_getting_mute(self):
        lying = [row(0, "x 1 1 - / hold mute mark m", 0, 0), row(1, "y 1 1 - / hold mute not mine", 1, 1),
                 row(2, "z 1 1 m", 1, 2)]
        self.assertEqual(self.leanings(lying), [(0, 1)])

    def test_by_force(self):
        lying = [row(0, "x 1 5 - / hold be 3 not force 2", 0, 0), row(1, "y 1 1 - / hold be 9 self", 0, 1)]
        self.assertEqual(self.leanings(lying), [(0, 1)])
        lying = [row(0, "x 1 5 - / hold less 1 force 2", 0, 0), row(1, "y 1 1 - / hold more 9 self", 0, 1)]
        self.assertEqual(self.leanings(lying), [(0, 1)])

    def test_not_of_unlike_layers(self):
        lying = [row(0, "x 1 1 - / hold gain b mine", 0, 0), row(1, "y 1 1 - / hold steal all", 1, 1),
                 row(2, "z 1 1 - / hold mute all", 1, 2), row(3, "u 1 1 - / hold more 1 mark b", 1, 3)]
        sight = first_sight(lying)
        gain = (2, 0, 0, 0)
        self.assertNotEqual(reach(lying, sight, gain), reach(lying, behind(lying, sight, (1, 1, 1, 0)), gain))
        self.assertEqual(self.leanings(lying), [])

    def test_not_on_itself(self):
        for rule in ("mute self", "lack a mark a", "steal not mine", "be 0 force 1", "less 1 force 1",
                     "per force 3 self"):
            lying = [row(0, f"x 1 2 a / hold {rule}", 0, 0), row(1, "y 1 3 a", 1, 1)]
            self.assertEqual(self.leanings(lying), [])

    def test_two_changes_of_one_card(self):
        lying = [row(0, "x 1 1 - / hold gain b mark a / hold gain a all", 0, 0)]
        sight = first_sight(lying)
        self.assertIs(leans(lying, sight, (2, 0, 0, 0), (2, 0, 0, 1)), True)
        self.assertIs(leans(lying, sight, (2, 0, 0, 1), (2, 0, 0, 0)), False)

    def test_by_the_sight_handed_in(self):
        lying = [row(0, "x 1 1 - / hold gain b mark a", 0, 0), row(1, "y 1 1 - / hold gain a self", 0, 1)]
        self.assertEqual(self.leanings(lying, [(0, 0, (), 1, False), (1, 0, ("a",), 1, False)]), [])
        self.assertEqual(self.leanings(lying, [(0, 0, (), 1, False), (1, 0, (), 1, True)]), [])
        self.assertEqual(self.leanings(lying, [(0, 0, (), 1, True), (1, 0, (), 1, False)]), [])

    def test_each_on_the_other(self):
        lying = [row(0, "x 1 1 - / hold mute not mine", 0, 0), row(1, "y 1 1 - / hold mute not mine", 1, 1)]
        self.assertEqual(self.leanings(lying), [(0, 1), (1, 0)])


def gains(*rules):
    """A card for each pair (mark asked for, mark gained), all of one layer: the came falls as the number rises."""
    return [row(k, f"c 1 1 s / hold gain {gained} mark {asked}", 0, 100 - k) for k, (asked, gained) in enumerate(rules)]


def in_a_row():
    """Four cards, each of which makes the one ahead of it mute, the first one a fifth."""
    return [
        row(0, "x 1 1 - / hold mute mark p", 0, 0, ("o",)),
        row(1, "y 1 1 - / hold mute mark o", 0, 1, ("n",)),
        row(2, "z 1 1 - / hold mute mark n", 0, 2, ("m",)),
        row(3, "u 1 1 - / hold mute mark m", 0, 3, ("l",)),
        row(4, "v 1 1 p", 0, 4),
    ]


def ring_and_one():
    """Two cards that make one another mute, and a third that makes one of them mute."""
    return [
        row(0, "x 1 1 - / hold mute mark b", 0, 0, ("a",)),
        row(1, "y 1 1 - / hold mute mark a", 0, 1, ("b",)),
        row(2, "z 1 1 - / hold mute mark b", 0, 2, ("d",)),
    ]


class Waiting(unittest.TestCase):
    def waiting(self, lying, some=None):
        some = changes(lying) if some is None else some
        sight = first_sight(lying)
        found = {}
        for one in some:
            told = waits(lying, sight, some, one)
            self.assertEqual(told, sorted(told))
            found[one[2]] = sorted(change[2] for change in told)
        return found

    def test_a_row_of_leanings(self):
        # Each leans on the next alone; waiting goes on to the end of the row.
        self.assertEqual(self.waiting(in_a_row()), {0: [1, 2, 3], 1: [2, 3], 2: [3], 3: []})

    def test_the_changes_told_are_the_tuples(self):
        lying = [row(0, "x 1 1 - / hold gain b mark a", 0, 0), row(1, "y 1 1 - / hold gain a self", 0, 1)]
        sight, every = first_sight(lying), changes(lying)
        self.assertEqual(waits(lying, sight, every, every[0]), [(2, 1, 1, 0)])
        self.assertEqual(waits(lying, sight, every, every[1]), [])

    def test_only_rows_among_those_some(self):
        lying = in_a_row()
        every = changes(lying)
        self.assertEqual(self.waiting(lying, [every[0], every[2]]), {0: [], 2: []})
        self.assertEqual(self.waiting(lying, [every[2], every[1]]), {2: [], 1: [2]})
        self.assertEqual(self.waiting(lying, [every[0]]), {0: []})

    def test_some_in_any_order(self):
        lying = gains(("a", "b"), ("s", "a"), ("b", "c"), ("c", "d"))
        for some in itertools.permutations(changes(lying)):
            self.assertEqual(self.waiting(lying, list(some)), self.waiting(lying))

    def test_a_ring_of_two(self):
        lying = [row(0, "x 1 1 - / hold mute not mine", 0, 0), row(1, "y 1 1 - / hold mute not mine", 1, 1)]
        self.assertEqual(self.waiting(lying), {0: [], 1: []})

    def test_a_ring_of_three(self):
        lying = [
            row(0, "x 1 1 - / hold mute mark b", 0, 0, ("a",)),
            row(1, "y 1 1 - / hold mute mark c", 0, 1, ("b",)),
            row(2, "z 1 1 - / hold mute mark a", 0, 2, ("c",)),
        ]
        self.assertEqual(self.waiting(lying), {0: [], 1: [], 2: []})
        every = changes(lying)
        self.assertEqual(self.waiting(lying, every[:2]), {0: [], 1: [0]})

    def test_one_that_leans_on_a_ring(self):
        lying = [
            row(0, "x 1 1 - / hold mute any mark b mark d", 0, 0, ("a",)),
            row(1, "y 1 1 - / hold mute mark a", 0, 1, ("b",)),
            row(2, "z 1 1 - / hold mute mark e", 0, 2, ("d",)),
            row(3, "u 1 1 e", 0, 3),
        ]
        self.assertEqual(self.waiting(lying), {0: [], 1: [], 2: [0, 1]})

    def test_a_ring_that_leans_on_one(self):
        self.assertEqual(self.waiting(ring_and_one()), {0: [2], 1: [2], 2: []})


class Layered(unittest.TestCase):
    def test_layers_one_behind_the_other(self):
        lying = [
            row(0, "a 1 1 - / hold more 5 mark m / hold be 2 all / hold gain m mine", 0, 9),
            row(1, "b 1 1 - / hold steal mark t", 0, 8),
            row(2, "c 1 4 t", 1, 7),
            row(3, "d 1 6 -", 1, 6),
        ]
        sight, order = layered(lying)
        self.assertEqual(sight, [(0, 0, ("m",), 7, False), (1, 0, ("m",), 7, False), (2, 0, ("m", "t"), 7, False),
                                 (3, 1, (), 2, False)])
        self.assertEqual(order, [
            ((1, 8, 1, 0), [(2, 0)]),
            ((2, 9, 0, 2), [(0, "m"), (1, "m"), (2, "m")]),
            ((3, 9, 0, 1), [(0, 2), (1, 2), (2, 2), (3, 2)]),
            ((4, 9, 0, 0), [(0, 5), (1, 5), (2, 5)]),
        ])
        self.assertEqual([type(value) for value in (layered(lying), sight, order, order[0], order[0][1])],
                         [tuple, list, list, tuple, list])

    def test_a_later_layer_does_not_count_for_an_earlier_one(self):
        lying = [row(0, "a 1 1 - / hold mute mark m", 0, 0), row(1, "b 1 1 - / hold gain m all", 0, 1)]
        self.assertEqual(layered(lying), ([(0, 0, ("m",), 1, False), (1, 0, ("m",), 1, False)],
                                          [((0, 0, 0, 0), []), ((2, 1, 1, 0), [(0, "m"), (1, "m")])]))

    def test_the_least_first_where_none_waits(self):
        lying = [row(0, "a 1 1 - / hold be 3 all", 0, 5), row(1, "b 1 1 - / hold be 4 all", 0, 2),
                 row(2, "c 1 1 - / hold be 5 all", 0, 7)]
        self.assertEqual(order_of(lying), [(3, 2, 1, 0), (3, 5, 0, 0), (3, 7, 2, 0)])
        self.assertEqual([row[3] for row in layered(lying)[0]], [5, 5, 5])

    def test_two_rules_of_one_card_by_place(self):
        lying = [row(0, "a 1 1 - / hold be 3 all / hold be 4 all / hold be 5 all", 0, 5)]
        self.assertEqual(order_of(lying), [(3, 5, 0, 0), (3, 5, 0, 1), (3, 5, 0, 2)])
        self.assertEqual(layered(lying)[0], [(0, 0, (), 5, False)])

    def test_one_that_waits_comes_behind(self):
        lying = [row(0, "a 1 1 - / hold gain y mark x", 0, 0), row(1, "b 1 1 - / hold gain x all", 0, 1)]
        self.assertEqual(layered(lying), ([(0, 0, ("x", "y"), 1, False), (1, 0, ("x", "y"), 1, False)],
                                          [((2, 1, 1, 0), [(0, "x"), (1, "x")]), ((2, 0, 0, 0), [(0, "y"), (1, "y")])]))

    def test_a_row_turned_round(self):
        sight, order = layered(in_a_row())
        # Once 3 made 2 mute, 1 leans on nothing any more: so it goes ahead of 2, and 0 waits for it alone.
        self.assertEqual(order, [((0, 3, 3, 0), [(2, 0)]), ((0, 1, 1, 0), [(0, 0)]),
                                 ((0, 0, 0, 0), []), ((0, 2, 2, 0), [])])
        self.assertEqual([row[4] for row in sight], [True, False, True, False, False])

    def test_a_ring_begins_with_the_least_and_is_asked_anew(self):
        for cames, winner in (((0, 1), 0), ((1, 0), 1)):
            lying = [row(0, "x 1 1 - / hold mute not mine", 0, cames[0]),
                     row(1, "y 1 1 - / hold mute not mine", 1, cames[1])]
            sight, order = layered(lying)
            self.assertEqual([row[4] for row in sight], [winner != 0, winner != 1])
            self.assertEqual([(change[2], found) for change, found in order],
                             [(winner, [(1 - winner, 0)]), (1 - winner, [])])

    def test_one_outside_the_ring_goes_ahead_of_what_waits_for_it(self):
        sight, order = layered(ring_and_one())
        self.assertEqual([change[2] for change, _ in order], [2, 0, 1])
        self.assertEqual([found for _, found in order], [[(1, 0)], [(1, 0)], []])
        self.assertEqual([row[4] for row in sight], [False, True, False])

    def test_steals_of_one_another(self):
        lying = [row(0, "x 1 1 - / hold steal mark m", 0, 0), row(1, "y 1 1 - / hold steal not mark m", 1, 1),
                 row(2, "z 1 1 m", 2, 2)]
        sight, order = layered(lying)
        self.assertEqual(order, [((1, 1, 1, 0), [(0, 1), (1, 1)]), ((1, 0, 0, 0), [(2, 1)])])
        self.assertEqual([row[1] for row in sight], [1, 1, 1])

    def test_per_waits_for_the_force_it_counts(self):
        lying = [row(0, "x 1 1 - / hold per force 2 self", 0, 0), row(1, "y 1 1 - / hold more 1 not mark z", 0, 1),
                 row(2, "z 1 1 z", 0, 2)]
        sight, order = layered(lying)
        self.assertEqual(order, [((4, 1, 1, 0), [(0, 1), (1, 1)]), ((4, 0, 0, 0), [(0, 2)])])
        self.assertEqual([row[3] for row in sight], [4, 2, 1])

    def test_forces_below_0(self):
        lying = [row(0, "x 1 1 - / hold less 5 all", 0, 0), row(1, "y 1 1 - / hold less 999 self", 1, 1)]
        self.assertEqual([row[3] for row in layered(lying)[0]], [-4, -1003])

    def test_a_mute_card_loses_all_its_hold_rules(self):
        lying = [row(0, "x 1 1 - / hold be 9 all / hold gain a all / hold steal all", 0, 0),
                 row(1, "y 1 1 - / hold mute not mine", 1, 1)]
        sight, order = layered(lying)
        self.assertEqual(sight, [(0, 0, (), 1, True), (1, 1, (), 1, False)])
        self.assertEqual([found for _, found in order], [[(0, 0)], [], [], []])

    def test_one_that_makes_itself_mute(self):
        lying = [row(0, "x 1 1 - / hold mute all / hold be 9 all", 0, 0), row(1, "y 1 1 - / hold more 1 all", 1, 1)]
        self.assertEqual(layered(lying), ([(0, 0, (), 1, True), (1, 1, (), 1, True)],
                                          [((0, 0, 0, 0), [(0, 0), (1, 0)]), ((3, 0, 0, 1), []), ((4, 1, 1, 0), [])]))

    def test_no_hold_rule(self):
        lying = [row(3, "x 1 1 -", 0, 0), row(1, "y 1 2 a / may 1 do one draw 1 mine", 1, 1)]
        self.assertEqual(layered(lying), (first_sight(lying), []))

    def test_any_order_of_the_cards(self):
        rng = random.Random(11)
        for _ in range(12):
            lying = lying_of(random_plains(rng, 5, 6, ALL_WORDS))
            told = layered(lying)
            for order in itertools.permutations(lying):
                self.assertEqual(layered(list(order)), told)


class Against(unittest.TestCase):
    """What the program tells of many cards against another telling of the same words."""

    def against(self, plains, rng):
        plain, lying = PlainLayers(plains), lying_of(plains)
        rng.shuffle(lying)
        every = plain.changes()
        self.assertEqual(changes(lying), every)
        told = layered(lying)
        self.assertEqual(told, plain.layered(), shown(lying))
        self.assertEqual(sorted(change for change, _ in told[1]), every)
        sight = plain.first()
        for step in [None] + rng.sample(every, min(2, len(every))):
            sight = sight if step is None else plain.behind(sight, step)
            self.one_sight(plain, lying, sight, every)

    def one_sight(self, plain, lying, sight, every):
        rows = told_sight(sight)
        for one in every:
            self.assertEqual(reach(lying, rows, one), sorted(plain.reach(sight, one).items()))
            self.assertEqual(behind(lying, rows, one), told_sight(plain.behind(sight, one)))
            some = [other for other in every if other[0] == one[0]]
            self.assertEqual(waits(lying, rows, some, one), plain.waits(sight, some, one), shown(lying))
            for other in every:
                self.assertIs(leans(lying, rows, one, other), plain.leans(sight, one, other), shown(lying))

    def test_all_layers(self):
        rng = random.Random(1)
        for _ in range(150):
            self.against(random_plains(rng, rng.randrange(1, 7), rng.randrange(7), ALL_WORDS), rng)

    def test_each_layer_by_itself(self):
        rng = random.Random(2)
        for words in LAYER_WORDS:
            for _ in range(60):
                self.against(random_plains(rng, rng.randrange(2, 6), rng.randrange(2, 6), words), rng)

    def test_sixteen_cards_with_eight_hold_rules(self):
        rng = random.Random(3)
        for words in LAYER_WORDS + (ALL_WORDS,):
            for _ in range(3):
                plains = random_plains(rng, 16, 8, words)
                lying = lying_of(plains)
                rng.shuffle(lying)
                self.assertEqual(layered(lying), PlainLayers(plains).layered())

    def test_the_longest_whoms_end_soon(self):
        nine = "any both mark a mark b both force 2 any mine self"
        for rule in (f"per {nine} {nine}", f"gain b {nine}", f"steal {nine}", f"mute {nine}", f"less 1 {nine}"):
            lying = [row(k, f"c 1 {k} a" + (f" / hold {rule}" if k < 8 else ""), k % 4, 50 - k) for k in range(16)]
            for _ in range(10):
                sight, order = layered(lying)
            self.assertEqual((len(sight), len(order)), (16, 8))


class Unchanged(unittest.TestCase):
    def setUp(self):
        self.lying = lying_of(random_plains(random.Random(8), 6, 7, ALL_WORDS))
        self.kept = list(self.lying)
        self.before = shown(self.lying)

    def tearDown(self):
        self.assertEqual(self.lying, self.kept)
        self.assertEqual(shown(self.lying), self.before)

    def test_nothing_handed_in_is_changed(self):
        sight, every = first_sight(self.lying), changes(self.lying)
        kept = copy.deepcopy((sight, every))
        layered(self.lying)
        for one in every:
            some = [change for change in every[::-1] if change[0] == one[0]]
            some_kept = list(some)
            reach(self.lying, sight, one)
            behind(self.lying, sight, one)
            waits(self.lying, sight, some, one)
            for other in every:
                leans(self.lying, sight, one, other)
            self.assertEqual(some, some_kept)
            self.assertEqual((sight, every), kept)

    def tell_twice(self, ask):
        """The asker spoils what was told; the same is told again."""
        told = ask()
        kept = copy.deepcopy(told)
        other = ask()
        told.clear()
        told.append("spoiled")
        self.assertEqual(other, kept)
        self.assertEqual(ask(), kept)

    def test_what_was_told_is_the_askers_own(self):
        sight, every = first_sight(self.lying), changes(self.lying)
        kept = copy.deepcopy(sight)
        self.tell_twice(lambda: first_sight(self.lying))
        self.tell_twice(lambda: changes(self.lying))
        self.tell_twice(lambda: layered(self.lying)[0])
        self.tell_twice(lambda: layered(self.lying)[1])
        for one in every:
            some = [change for change in every if change[0] == one[0]]
            self.tell_twice(lambda: reach(self.lying, sight, one))
            self.tell_twice(lambda: behind(self.lying, sight, one))
            self.tell_twice(lambda: waits(self.lying, sight, some, one))
            self.tell_twice(lambda: layered(self.lying)[1][0][1])
        self.assertEqual(sight, kept)

    def test_behind_a_change_of_nothing_is_a_sight_of_its_own(self):
        lying = [row(0, "x 1 1 - / hold be 1 mark z", 0, 0)]
        sight = first_sight(lying)
        then = behind(lying, sight, changes(lying)[0])
        then.append("spoiled")
        self.assertEqual(sight, [(0, 0, (), 1, False)])

    def test_a_sight_told_earlier_stays(self):
        lying = [row(0, "x 1 1 - / hold more 1 all", 0, 0)]
        sight, order = layered(lying)
        kept = copy.deepcopy((sight, order))
        lying.append(row(1, "y 1 1 - / hold mute all", 1, 1))
        self.assertEqual(layered(lying)[0], [(0, 0, (), 1, True), (1, 1, (), 1, True)])
        self.assertEqual((sight, order), kept)


if __name__ == "__main__":
    unittest.main()
