import copy
import itertools
import unittest

from helper import PlainTable, random_choices, random_table, row, seeded
from turnstack.table import rows_of, sight_of
from turnstack.turns import chosen, put_in_place, rules_for, turned

SIXTY = 10 ** 60 - 1


def sight_with(lying, **keepers):
    """The sight of the texts, with other keepers where they are told: k0=1 for the card 0 kept by the player 1."""
    return sorted((number, keepers.get(f"k{number}", keeper), marks, card.force, False)
                  for number, card, keeper, _, marks in lying)


class Chosen(unittest.TestCase):
    def test_one_way_takes_nothing(self):
        for choices in ([], [0], [7, 3], [-1]):
            self.assertEqual(chosen(1, choices), (0, choices))

    def test_several_ways_take_the_first_choice(self):
        self.assertEqual(chosen(2, [1]), (1, []))
        self.assertEqual(chosen(2, [0, 5]), (0, [5]))
        self.assertEqual(chosen(3, [2, 1, 0]), (2, [1, 0]))
        self.assertEqual(chosen(300, [299, 299]), (299, [299]))

    def test_by_the_remainder(self):
        self.assertEqual(chosen(3, [3, 9]), (0, [9]))
        self.assertEqual(chosen(3, [4]), (1, []))
        self.assertEqual(chosen(7, [SIXTY]), (SIXTY % 7, []))

    def test_below_0_the_remainder_is_from_0_on(self):
        self.assertEqual(chosen(3, [-1, 2]), (2, [2]))
        self.assertEqual(chosen(3, [-3]), (0, []))
        self.assertEqual(chosen(3, [-7]), (2, []))
        self.assertEqual(chosen(10, [-SIXTY]), (1, []))

    def test_none_left(self):
        for ways in (1, 2, 3, 40):
            self.assertEqual(chosen(ways, []), (0, []))

    def test_the_choices_handed_in_stay(self):
        for ways in (1, 2):
            choices = [1, 2, 3]
            way, left = chosen(ways, choices)
            self.assertEqual(choices, [1, 2, 3])
            left.append(9)
            self.assertEqual(choices, [1, 2, 3])
            self.assertEqual(type(left), list)


class RulesFor(unittest.TestCase):
    def rules(self, texts, happening, used=(), **keepers):
        """Cards of the players 0, 1, 0, 1 ..; the last came first."""
        lying = [row(number, text, number % 2, 50 - number) for number, text in enumerate(texts)]
        return rules_for(lying, sight_with(lying, **keepers), happening, list(used))

    def test_place_counts_all_rules(self):
        text = "c 1 1 - / hold be 2 self / may 1 do one draw 1 mine / instead hurt all do none"
        self.assertEqual(self.rules([text], ("hurt", 0, 1)), [(50, 0, 2)])
        text = "c 1 1 - / when hurt all do each hurt 1 all / instead hurt all do here"
        self.assertEqual(self.rules([text], ("hurt", 0, 1)), [(50, 0, 1)])

    def test_no_other_sort(self):
        text = "c 1 1 - / when hurt all do each hurt 1 all / may 0 do one hurt 1 all / hold more 1 all"
        self.assertEqual(self.rules([text], ("hurt", 0, 1)), [])

    def test_of_the_same_kind_alone(self):
        kinds = (("leave", 0, 0), ("hurt", 0, 1), ("gain", 0, "a"), ("lack", 0, "a"), ("lose", -1, 1),
                 ("score", -1, 1), ("draw", -1, 1))
        texts = [f"c 1 1 - / instead {kind[0]} all do none" for kind in kinds]
        for number, happening in enumerate(kinds):
            self.assertEqual(self.rules(texts, happening), [(50 - number, number, 0)])
        self.assertEqual(self.rules(texts, ("come", 0, 0)), [])

    def test_sorted_by_came(self):
        text = "c 1 1 - / instead hurt all do less 1 / instead hurt all do more 1"
        lying = [row(3, text, 0, 4), row(1, text, 0, 9), row(2, text, 0, -6)]
        want = [(-6, 2, 0), (-6, 2, 1), (4, 3, 0), (4, 3, 1), (9, 1, 0), (9, 1, 1)]
        for order in itertools.permutations(lying):
            self.assertEqual(rules_for(list(order), sight_with(lying), ("hurt", 1, 1), []), want)

    def test_cards_fit_by_their_keepers_in_the_sight(self):
        texts = ["a 1 1 - / instead hurt mine do none", "b 1 1 -", "c 1 1 -"]
        self.assertEqual(self.rules(texts, ("hurt", 1, 1)), [])
        self.assertEqual(self.rules(texts, ("hurt", 2, 1)), [(50, 0, 0)])
        self.assertEqual(self.rules(texts, ("hurt", 1, 1), k1=0), [(50, 0, 0)])
        self.assertEqual(self.rules(texts, ("hurt", 2, 1), k2=3), [])
        self.assertEqual(self.rules(texts, ("hurt", 1, 1), k0=1), [(50, 0, 0)])
        self.assertEqual(self.rules(texts, ("hurt", 2, 1), k0=1), [])

    def test_players_fit_by_the_keeper_of_the_rule_s_card_in_the_sight(self):
        texts = ["a 1 1 - / instead lose mine do none / instead lose not mine do less 1"]
        self.assertEqual(self.rules(texts, ("lose", -1, 1)), [(50, 0, 0)])
        self.assertEqual(self.rules(texts, ("lose", -2, 1)), [(50, 0, 1)])
        self.assertEqual(self.rules(texts, ("lose", -1, 1), k0=1), [(50, 0, 1)])
        self.assertEqual(self.rules(texts, ("lose", -2, 1), k0=1), [(50, 0, 0)])

    def test_marks_and_forces_of_the_sight(self):
        lying = [row(0, "a 1 1 x / instead leave both mark y force 7 do none", 0, 0)]
        self.assertEqual(rules_for(lying, [(0, 0, ("x",), 1, False)], ("leave", 0, 0), []), [])
        self.assertEqual(rules_for(lying, [(0, 0, ("y",), 6, False)], ("leave", 0, 0), []), [])
        self.assertEqual(rules_for(lying, [(0, 0, ("y",), 7, False)], ("leave", 0, 0), []), [(0, 0, 0)])

    def test_self_is_the_rule_s_own_card(self):
        texts = ["a 1 1 - / instead hurt self do none", "b 1 1 - / instead hurt not self do none"]
        self.assertEqual(self.rules(texts, ("hurt", 0, 1)), [(49, 1, 0), (50, 0, 0)])
        self.assertEqual(self.rules(texts, ("hurt", 1, 1)), [])

    def test_of_a_mute_card_too(self):
        lying = [row(0, "a 1 1 - / instead hurt all do none", 0, 0)]
        self.assertEqual(rules_for(lying, [(0, 0, (), 1, True)], ("hurt", 0, 1), []), [(0, 0, 0)])

    def test_those_that_were_used_are_not_told(self):
        text = "c 1 1 - / instead draw all do less 1 / instead draw all do more 1"
        texts = [text, text]
        happening = ("draw", -1, 1)
        self.assertEqual(self.rules(texts, happening, [(1, 0)]), [(49, 1, 1), (50, 0, 0), (50, 0, 1)])
        self.assertEqual(self.rules(texts, happening, [(0, 1), (1, 0)]), [(49, 1, 1), (50, 0, 0)])
        self.assertEqual(self.rules(texts, happening, [(0, 0), (0, 1), (1, 0), (1, 1)]), [])


class Turned(unittest.TestCase):
    def test_none_of_each_kind(self):
        for happening in (("leave", 3, 0), ("hurt", 3, 5), ("gain", 3, "a"), ("lack", 3, "a"), ("lose", -2, 5),
                          ("score", -2, 5), ("draw", -2, 5)):
            self.assertIsNone(turned(happening, "none", None, 7))

    def test_here_of_each_kind(self):
        for happening in (("leave", 3, 0), ("hurt", 3, 5), ("gain", 3, "a"), ("lack", 3, "a")):
            self.assertEqual(turned(happening, "here", None, 7), (happening[0], 7, happening[2]))
            self.assertEqual(turned(happening, "here", None, 3), happening)

    def test_less_and_more_of_each_kind(self):
        for kind, thing in (("hurt", 3), ("lose", -2), ("score", -4), ("draw", -1)):
            self.assertEqual(turned((kind, thing, 5), "less", 2, 7), (kind, thing, 3))
            self.assertEqual(turned((kind, thing, 5), "less", 5, 7), (kind, thing, 0))
            self.assertEqual(turned((kind, thing, 5), "less", 6, 7), (kind, thing, 0))
            self.assertEqual(turned((kind, thing, 0), "less", 999, 7), (kind, thing, 0))
            self.assertEqual(turned((kind, thing, 5), "less", 0, 7), (kind, thing, 5))
            self.assertEqual(turned((kind, thing, 5), "more", 2, 7), (kind, thing, 7))
            self.assertEqual(turned((kind, thing, 0), "more", 999, 7), (kind, thing, 999))

    def test_as_of_each_kind(self):
        for kind in ("lose", "score", "draw"):
            for other in ("lose", "score", "draw"):
                self.assertEqual(turned((kind, -3, 5), "as", other, 7), (other, -3, 5))


class PutInPlace(unittest.TestCase):
    def put(self, texts, happening, choices=(), **keepers):
        """Cards of the players 0, 1, 0, 1 ..; they came in the order of their numbers."""
        lying = [row(number, text, number % 2, number) for number, text in enumerate(texts)]
        return put_in_place(lying, sight_with(lying, **keepers), happening, list(choices))

    def test_no_rule(self):
        self.assertEqual(self.put(["a 1 1 -"], ("hurt", 0, 1), [4, 5]), ([], ("hurt", 0, 1), [4, 5]))
        self.assertEqual(put_in_place([], [], ("draw", -1, 1), []), ([], ("draw", -1, 1), []))

    def test_one_rule_takes_no_choice(self):
        texts = ["a 1 1 -", "b 1 1 - / instead hurt not mine do less 2"]
        self.assertEqual(self.put(texts, ("hurt", 0, 5), [4]), ([(0, 1, 0, ("hurt", 0, 3))], ("hurt", 0, 3), [4]))

    def test_none_ends_it(self):
        texts = ["a 1 1 - / instead hurt all do none / instead hurt all do more 1"]
        self.assertEqual(self.put(texts, ("hurt", 0, 5), [0, 9]), ([(0, 0, 0, None)], None, [9]))
        self.assertEqual(self.put(texts, ("hurt", 0, 5), [1, 9]),
                         ([(0, 0, 1, ("hurt", 0, 6)), (0, 0, 0, None)], None, [9]))

    def test_the_order_is_chosen(self):
        texts = ["a 1 1 - / instead hurt all do less 3 / instead hurt all do more 2"]
        less = ([(0, 0, 0, ("hurt", 0, 0)), (0, 0, 1, ("hurt", 0, 2))], ("hurt", 0, 2))
        more = ([(0, 0, 1, ("hurt", 0, 3)), (0, 0, 0, ("hurt", 0, 0))], ("hurt", 0, 0))
        self.assertEqual(self.put(texts, ("hurt", 0, 1)), less + ([],))
        self.assertEqual(self.put(texts, ("hurt", 0, 1), [0, 1]), less + ([1],))
        self.assertEqual(self.put(texts, ("hurt", 0, 1), [1]), more + ([],))
        self.assertEqual(self.put(texts, ("hurt", 0, 1), [-1, 7, 8]), more + ([7, 8],))

    def test_choices_of_three_rules(self):
        texts = ["a 1 1 - / instead lose all do more 1 / instead lose all do more 2 / instead lose all do more 3"]
        trail, happening, left = self.put(texts, ("lose", -2, 0), [2, 1, 5, 6])
        self.assertEqual(trail, [(1, 0, 2, ("lose", -2, 3)), (1, 0, 1, ("lose", -2, 5)), (1, 0, 0, ("lose", -2, 6))])
        self.assertEqual((happening, left), (("lose", -2, 6), [5, 6]))

    def test_here_makes_other_rules_fit(self):
        texts = ["a 1 1 - / instead hurt not self do here", "b 1 1 -",
                 "c 1 1 - / instead hurt mark m do more 4", "d 1 1 - / instead hurt self do none"]
        self.assertEqual(self.put(texts, ("hurt", 1, 2)), ([(1, 0, 0, ("hurt", 0, 2))], ("hurt", 0, 2), []))
        texts[0] = "a 1 1 m / instead hurt not self do here"
        self.assertEqual(self.put(texts, ("hurt", 1, 2)),
                         ([(1, 0, 0, ("hurt", 0, 2)), (0, 2, 0, ("hurt", 0, 6))], ("hurt", 0, 6), []))

    def test_here_and_back_again(self):
        texts = ["a 1 1 - / instead leave not self do here", "b 1 1 - / instead leave not self do here"]
        trail = [(1, 0, 0, ("leave", 0, 0)), (0, 1, 0, ("leave", 1, 0))]
        self.assertEqual(self.put(texts, ("leave", 1, 0)), (trail, ("leave", 1, 0), []))

    def test_a_rule_is_not_put_twice_though_the_thing_is_another_one(self):
        texts = ["a 1 1 - / instead gain all do here", "b 1 1 - / instead gain all do here", "c 1 1 -"]
        trail, happening, left = self.put(texts, ("gain", 2, "x"), [1, 0, 0])
        self.assertEqual(trail, [(0, 1, 0, ("gain", 1, "x")), (1, 0, 0, ("gain", 0, "x"))])
        self.assertEqual((happening, left), (("gain", 0, "x"), [0, 0]))

    def test_as_makes_rules_of_other_kinds_fit(self):
        texts = ["a 1 1 - / instead lose all do as score / instead score all do as draw / instead draw all do more 1"]
        self.assertEqual(self.put(texts, ("lose", -1, 4)), ([
            (0, 0, 0, ("score", -1, 4)), (0, 0, 1, ("draw", -1, 4)), (0, 0, 2, ("draw", -1, 5)),
        ], ("draw", -1, 5), []))

    def test_as_of_the_same_kind(self):
        texts = ["a 1 1 - / instead lose all do as lose"]
        self.assertEqual(self.put(texts, ("lose", -1, 4)), ([(0, 0, 0, ("lose", -1, 4))], ("lose", -1, 4), []))

    def test_as_there_and_back_puts_no_rule_twice(self):
        texts = ["a 1 1 - / instead lose all do as draw / instead draw all do as lose"]
        self.assertEqual(self.put(texts, ("draw", -4, 1)),
                         ([(3, 0, 1, ("lose", -4, 1)), (3, 0, 0, ("draw", -4, 1))], ("draw", -4, 1), []))

    def test_the_keeper_in_the_sight_chooses(self):
        texts = ["a 1 1 - / instead hurt all do more 1", "b 1 1 - / instead hurt self do here"]
        trail, _, _ = self.put(texts, ("hurt", 1, 2), [1], k1=3)
        self.assertEqual(trail, [(3, 1, 0, ("hurt", 1, 2)), (3, 0, 0, ("hurt", 1, 3))])

    def test_behind_a_here_the_other_card_s_keeper_chooses(self):
        texts = ["a 1 1 - / instead hurt not self do here / instead hurt self do more 1", "b 1 1 -"]
        trail, _, _ = self.put(texts, ("hurt", 1, 2), [], k0=2)
        self.assertEqual(trail, [(1, 0, 0, ("hurt", 0, 2)), (2, 0, 1, ("hurt", 0, 3))])

    def test_what_is_handed_in_stays(self):
        lying = [row(0, "a 1 1 - / instead hurt all do less 3 / instead hurt all do more 2", 0, 0)]
        sight, choices = sight_with(lying), [1, 2]
        ahead = copy.deepcopy((sight, choices))
        trail, _, left = put_in_place(lying, sight, ("hurt", 0, 1), choices)
        left.append(3)
        trail.clear()
        self.assertEqual((sight, choices), ahead)
        self.assertEqual(len(lying), 1)
        _, _, left = put_in_place(lying, sight, ("leave", 0, 0), choices)
        left.append(3)
        self.assertEqual(choices, [1, 2])

    def test_its_kinds(self):
        told = self.put(["a 1 1 - / instead hurt all do less 3"], ("hurt", 0, 1))
        self.assertEqual([type(value) for value in (told, told[0], told[0][0], told[1], told[2])],
                         [tuple, list, tuple, tuple, list])

    def test_like_the_second_telling(self):
        put = 0
        for rng in seeded(400):
            cards, owners, table = random_table(rng)
            things = [("hurt", n, rng.randrange(4)) for n in table[5]] + [("leave", n, 0) for n in table[5]]
            things += [(kind, n, rng.choice("abc")) for n in table[5] for kind in ("gain", "lack")]
            things += [(kind, -1 - p, rng.randrange(4)) for p in range(len(table[0]))
                       for kind in ("lose", "score", "draw")]
            rows, sight = rows_of(cards, owners, table), sight_of(cards, owners, table)
            for happening in things:
                choices = random_choices(rng)
                left = list(choices)
                want = PlainTable(cards, owners, table).put(happening, left)
                self.assertEqual(put_in_place(rows, sight, happening, choices), want + (left,))
                put += len(want[0])
        self.assertGreater(put, 500)


if __name__ == "__main__":
    unittest.main()
