import copy
import unittest

from helper import PlainTable, all_lying, altered, part, plain_cards, random_choices, random_table, seeded, table_of
from turnstack.cards import read_card, show_card
from turnstack.errors import NoCard, NoFight
from turnstack.layers import layered
from turnstack.table import begun, called, done, happen, rows_of, sight_of

PLAIN = "c 1 2 a,b"
HOLD = "h 1 2 - / hold more 1 all"


class Begun(unittest.TestCase):
    def test_two_players(self):
        texts = ["a 1 5 x,y", "b 2 4 -", "c 3 3 -", "d 4 2 m", "e 5 1 -", "f 6 0 z"]
        cards, owners, table = begun([texts[:5], texts[5:]])
        self.assertEqual([show_card(card) for card in cards], texts)
        self.assertEqual(owners, [0, 0, 0, 0, 0, 1])
        self.assertEqual(table, (
            (20, 20), (0, 0), (False, False), ((3, 4), ()), ((0, 1, 2), (5,)), (), (),
            (("x", "y"), (), (), ("m",), (), ("z",)), (0,) * 6,
        ))

    def test_three_and_four_players(self):
        cards, owners, table = begun([[PLAIN] * 4, [PLAIN] * 2, [PLAIN] * 3])
        self.assertEqual(owners, [0] * 4 + [1] * 2 + [2] * 3)
        self.assertEqual(table, (
            (20,) * 3, (0,) * 3, (False,) * 3, ((3,), (), ()), ((0, 1, 2), (4, 5), (6, 7, 8)), (), (),
            (("a", "b"),) * 9, (0,) * 9,
        ))
        cards, owners, table = begun([[], [PLAIN], [], [PLAIN] * 5])
        self.assertEqual(owners, [1] + [3] * 5)
        self.assertEqual(table, (
            (20,) * 4, (0,) * 4, (False,) * 4, ((), (), (), (4, 5)), ((), (0,), (), (1, 2, 3)), (), (),
            (("a", "b"),) * 6, (0,) * 6,
        ))

    def test_empty_decks(self):
        for players in (2, 3, 4):
            empty = ((),) * players
            want = ((20,) * players, (0,) * players, (False,) * players, empty, empty, (), (), (), ())
            self.assertEqual(begun([[] for _ in range(players)]), ([], [], want))

    def test_its_kinds(self):
        cards, owners, table = begun([[PLAIN] * 4, []])
        self.assertEqual([type(value) for value in (cards, owners, table)], [list, list, tuple])
        self.assertEqual({type(value) for value in table}, {tuple})
        for name in ("decks", "hands", "marks"):
            self.assertEqual({type(value) for value in part(table, name)}, {tuple})
        self.assertEqual({type(value) for value in part(table, "gone")}, {bool})

    def test_sixteen_cards_and_seventeen(self):
        self.assertEqual(len(begun([[PLAIN] * 16, []])[0]), 16)
        self.assertEqual(len(begun([[PLAIN] * 4] * 4)[0]), 16)
        for decks in ([[PLAIN] * 17, []], [[], [PLAIN] * 17], [[PLAIN] * 4, [PLAIN] * 5, [PLAIN] * 4, [PLAIN] * 4]):
            with self.assertRaises(NoFight):
                begun(decks)

    def test_eight_hold_rules_and_nine(self):
        three = "h 1 2 - / hold more 1 all / hold mute mark a / hold steal mark a"
        two = "h 1 2 - / hold more 1 all / may 1 do one leave all / hold steal mark a"
        self.assertEqual(len(begun([[HOLD] * 4, [HOLD] * 4])[0]), 8)
        self.assertEqual(len(begun([[three, two], [PLAIN, three]])[0]), 4)
        for decks in ([[HOLD] * 5, [HOLD] * 4], [[three] * 3, []], [[three], [two], [two], [two]]):
            with self.assertRaises(NoFight):
                begun(decks)

    def test_one_player_and_five(self):
        for decks in ([], [[]], [[PLAIN]], [[]] * 5, [[PLAIN]] * 5, [[]] * 6):
            with self.assertRaises(NoFight):
                begun(decks)

    def test_no_card_goes_ahead(self):
        for bad in ("", "wolf", "c 1 2 b,a", "c 1 2 - / hold", None, 5, ["c 1 2 -"]):
            for decks in ([[bad], []], [[], [PLAIN, bad]], [[bad]], [[PLAIN] * 17 + [bad], []], [[HOLD] * 9, [bad]],
                          [[], [], [], [], [bad]]):
                with self.assertRaises(NoCard):
                    begun(decks)

    def test_what_is_handed_in_and_told_are_apart(self):
        decks = [[PLAIN] * 4, [HOLD]]
        ahead = copy.deepcopy(decks)
        cards, owners, table = begun(decks)
        self.assertEqual(decks, ahead)
        decks[0].clear()
        self.assertEqual((len(cards), owners, part(table, "hands")), (5, [0, 0, 0, 0, 1], ((0, 1, 2), (4,))))
        cards.clear()
        owners.clear()
        self.assertEqual(begun(ahead)[1], [0, 0, 0, 0, 1])


class RowsAndSight(unittest.TestCase):
    TEXTS = ("a 1 5 x / hold steal mark t", "b 1 1 t", "c 1 2 - / hold more 3 mine", "d 1 9 -")

    def test_rows_as_they_came(self):
        cards, owners, table = all_lying(self.TEXTS, (0, 1, 2, 0), 3, lying=(2, 0, 3))
        table = altered(table, marks=(("m",), ("t",), (), ("n",)))
        self.assertEqual(rows_of(cards, owners, table), [
            (2, cards[2], 2, 0, ()), (0, cards[0], 0, 1, ("m",)), (3, cards[3], 0, 2, ("n",)),
        ])
        self.assertEqual(rows_of(cards, owners, altered(table, lying=())), [])

    def test_sight_is_that_of_the_layers(self):
        cards, owners, table = all_lying(self.TEXTS, (0, 1, 0, 1))
        self.assertEqual(sight_of(cards, owners, table), [
            (0, 0, ("x",), 8, False), (1, 0, ("t",), 4, False), (2, 0, (), 5, False), (3, 1, (), 9, False),
        ])

    def test_sight_by_the_marks_of_the_table(self):
        cards, owners, table = all_lying(self.TEXTS, (0, 1, 0, 1), marks=((), (), (), ("t",)))
        self.assertEqual(sight_of(cards, owners, table), [
            (0, 0, (), 8, False), (1, 1, (), 1, False), (2, 0, (), 5, False), (3, 0, ("t",), 12, False),
        ])

    def test_sight_by_the_order_in_which_they_came(self):
        texts = ("a 1 1 - / hold be 5 all", "b 1 1 - / hold be 7 all")
        for lying, force in (((0, 1), 7), ((1, 0), 5)):
            cards, owners, table = all_lying(texts, (0, 1), lying=lying)
            self.assertEqual([row[3] for row in sight_of(cards, owners, table)], [force, force])

    def test_only_lying_cards(self):
        cards, owners, table = all_lying(self.TEXTS, (0, 1, 0, 1), lying=(3, 1))
        self.assertEqual(sight_of(cards, owners, table), [(1, 1, ("t",), 1, False), (3, 1, (), 9, False)])

    def test_like_the_layers(self):
        for rng in seeded(60):
            cards, owners, table = random_table(rng)
            self.assertEqual(sight_of(cards, owners, table), layered(rows_of(cards, owners, table))[0])


class Happen(unittest.TestCase):
    def setUp(self):
        texts = ("a 1 5 b,d", "b 1 4 -", "c 1 3 k", "d 1 2 z", "e 1 1 -", "f 1 1 -", "g 1 1 -")
        self.cards = [read_card(text) for text in texts]
        self.table = table_of(
            self.cards, 3, points=(20, 7, 0), scores=(0, 3, 0), gone=(False, False, True),
            decks=((6, 3), (), (4,)), hands=((5,), (), ()), lying=(2, 0), heap=(1,),
            marks=(("b", "d"), (), ("k", "p"), ("z",), (), (), ()), wounds=(4, 0, 9, 0, 0, 0, 0),
        )

    def behind(self, *happening):
        ahead = copy.deepcopy(self.table)
        told = happen(self.cards, self.table, happening)
        self.assertEqual(self.table, ahead)
        self.assertEqual(({type(value) for value in told}, type(told)), ({tuple}, tuple))
        return told

    def but(self, **parts):
        return altered(self.table, **parts)

    def test_come(self):
        table = self.but(decks=((6,), (), (4,)))
        self.table = table
        self.assertEqual(self.behind("come", 3, 0), self.but(lying=(2, 0, 3)))

    def test_come_is_without_wounds_and_with_the_text_s_marks(self):
        self.table = self.but(decks=((6,), (), (4,)), wounds=(4, 0, 9, 8, 0, 0, 0),
                              marks=(("b", "d"), (), ("k", "p"), ("q",), (), (), ()))
        self.assertEqual(self.behind("come", 3, 0), self.but(
            lying=(2, 0, 3), wounds=(4, 0, 9, 0, 0, 0, 0), marks=(("b", "d"), (), ("k", "p"), ("z",), (), (), ())))

    def test_leave(self):
        self.assertEqual(self.behind("leave", 2, 0), self.but(
            lying=(0,), heap=(1, 2), wounds=(4,) + (0,) * 6, marks=(("b", "d"), (), ("k",), ("z",), (), (), ())))
        self.assertEqual(self.behind("leave", 0, 0), self.but(lying=(2,), heap=(0, 1), wounds=(0, 0, 9, 0, 0, 0, 0)))

    def test_hurt(self):
        self.assertEqual(self.behind("hurt", 2, 5), self.but(wounds=(4, 0, 14, 0, 0, 0, 0)))
        self.assertEqual(self.behind("hurt", 0, 0), self.table)

    def test_gain(self):
        for name, marks in (("a", ("a", "b", "d")), ("c", ("b", "c", "d")), ("e", ("b", "d", "e")), ("b", ("b", "d"))):
            self.assertEqual(self.behind("gain", 0, name), self.but(
                marks=(marks, (), ("k", "p"), ("z",), (), (), ())))

    def test_lack(self):
        for name, marks in (("b", ("d",)), ("d", ("b",)), ("k", ("b", "d"))):
            self.assertEqual(self.behind("lack", 0, name), self.but(
                marks=(marks, (), ("k", "p"), ("z",), (), (), ())))

    def test_to_a_card_that_does_not_lie(self):
        for number in (1, 3, 4, 5):
            for happening in (("leave", number, 0), ("hurt", number, 3), ("gain", number, "a"), ("lack", number, "z")):
                self.assertEqual(self.behind(*happening), self.table)

    def test_lose_and_score(self):
        self.assertEqual(self.behind("lose", -1, 3), self.but(points=(17, 7, 0)))
        self.assertEqual(self.behind("lose", -2, 9), self.but(points=(20, -2, 0)))
        self.assertEqual(self.behind("lose", -2, 0), self.table)
        self.assertEqual(self.behind("score", -2, 4), self.but(scores=(0, 7, 0)))
        self.assertEqual(self.behind("score", -1, 10 ** 59), self.but(scores=(10 ** 59, 3, 0)))

    def test_draw(self):
        self.assertEqual(self.behind("draw", -1, 1), self.but(decks=((3,), (), (4,)), hands=((5, 6), (), ())))
        for many in (2, 3, 10 ** 59):
            self.assertEqual(self.behind("draw", -1, many), self.but(decks=((), (), (4,)), hands=((3, 5, 6), (), ())))
        self.assertEqual(self.behind("draw", -1, 0), self.table)
        self.assertEqual(self.behind("draw", -2, 2), self.table)

    def test_to_a_player_who_is_gone(self):
        for happening in (("lose", -3, 3), ("score", -3, 3), ("draw", -3, 1)):
            self.assertEqual(self.behind(*happening), self.table)


class Called(unittest.TestCase):
    def calls(self, texts, owners, happening, players=2, **parts):
        cards, owners, table = all_lying(texts, owners, players, **parts)
        ahead = copy.deepcopy((owners, table)), plain_cards(cards)
        told = called(cards, owners, table, happening)
        self.assertEqual(((owners, table), plain_cards(cards)), ahead)
        self.assertEqual(type(told), list)
        self.assertEqual({type(one) for one in told} | {tuple}, {tuple})
        return told

    def test_each_kind_calls_its_own(self):
        kinds = (("leave", 0, 0), ("hurt", 0, 1), ("gain", 0, "a"), ("lack", 0, "a"), ("lose", -1, 1), ("score", -1, 1),
                 ("draw", -1, 1), ("come", 8, 0))
        texts = [f"c 1 5 - / when {kind[0]} all do each leave self" for kind in kinds] + ["d 1 1 -"]
        for number, happening in enumerate(kinds):
            told = self.calls(texts, (0,) * 9, happening, lying=tuple(range(8)))
            self.assertEqual(told, [(0, number, 0)], happening)

    def test_in_the_order_of_came_and_place(self):
        text = "c 1 5 - / when hurt all do each leave self / may 0 do one leave all / when hurt all do one leave all"
        self.assertEqual(self.calls([text] * 3, (0, 1, 0), ("hurt", 1, 1), lying=(2, 0, 1)),
                         [(0, 2, 0), (0, 2, 2), (0, 0, 0), (0, 0, 2), (1, 1, 0), (1, 1, 2)])

    def test_no_other_sort(self):
        texts = ["c 1 5 - / instead hurt all do none / hold be 4 all / may 0 do one hurt 1 all"]
        self.assertEqual(self.calls(texts, (0,), ("hurt", 0, 1)), [])

    def test_leave_in_the_sight_ahead(self):
        texts = ["a 1 5 - / hold gain n all / when leave self do each leave all"
                 " / when leave not self do each leave all",
                 "b 1 5 - / when leave mark n do each draw 1 mine", "c 1 5 - / when leave force 5 do each draw 1 mine"]
        self.assertEqual(self.calls(texts, (0, 1, 1), ("leave", 0, 0)), [(0, 0, 1), (1, 1, 0), (1, 2, 0)])

    def test_leave_by_the_keeper_ahead(self):
        texts = ["a 1 5 - / hold steal mark t", "b 1 5 t / when leave mine do each draw 1 mine"]
        self.assertEqual(self.calls(texts, (0, 1), ("leave", 0, 0)), [(0, 1, 0)])
        self.assertEqual(self.calls(texts, (0, 1), ("leave", 1, 0)), [(0, 1, 0)])

    def test_come_in_the_sight_behind(self):
        texts = ["a 1 5 - / when come mark n do each draw 1 mine", "b 1 5 - / when come mine do each draw 1 mine",
                 "c 1 5 - / hold gain n self / hold steal not self / when come self do each draw 1 mine"]
        self.assertEqual(self.calls(texts, (0, 0, 1), ("come", 2, 0), lying=(1, 0)),
                         [(1, 1, 0), (1, 0, 0), (1, 2, 2)])

    def test_gain_and_lack_in_the_sight_behind(self):
        texts = ["a 1 5 - / when gain mark n do each draw 1 mine / when lack mark n do each draw 1 mine",
                 "b 1 5 - / when gain not mark n do each draw 1 mine / when lack not mark n do each draw 1 mine",
                 "c 1 5 m", "d 1 5 - / hold steal mark n"]
        self.assertEqual(self.calls(texts, (0, 0, 0, 1), ("gain", 2, "n")), [(0, 0, 0)])
        self.assertEqual(self.calls(texts, (0, 0, 0, 1), ("lack", 2, "m")), [(0, 1, 1)])
        self.assertEqual(self.calls(texts, (0, 0, 0, 1), ("lack", 2, "n"), marks=((), (), ("n",), ())), [(0, 1, 1)])
        self.assertEqual(self.calls(texts, (0, 0, 0, 1), ("gain", 0, "n")), [(1, 0, 0)])
        self.assertEqual(self.calls(texts, (0, 0, 0, 1), ("lack", 0, "n"), marks=(("n",), (), (), ())), [(0, 1, 1)])

    def test_by_keepers_in_the_sight(self):
        texts = ["a 1 5 t / when lose mine do each draw 1 mine", "b 1 5 - / hold steal mark t"]
        self.assertEqual(self.calls(texts, (0, 1), ("lose", -1, 1)), [])
        self.assertEqual(self.calls(texts, (0, 1), ("lose", -2, 1)), [(1, 0, 0)])

    def test_what_changes_nothing_calls_too(self):
        kinds = (("hurt", 0, 0), ("gain", 0, "m"), ("lack", 0, "x"), ("lose", -1, 0), ("score", -1, 0), ("draw", -1, 1),
                 ("draw", -1, 0))
        for happening in kinds:
            texts = [f"c 1 5 m / when {happening[0]} all do each leave self"]
            self.assertEqual(self.calls(texts, (1,), happening), [(1, 0, 0)], happening)

    def test_a_card_that_does_not_lie_or_a_player_who_is_gone_calls_nothing(self):
        for kind, amount in (("leave", 0), ("hurt", 1), ("gain", "a"), ("lack", "a")):
            texts = [f"c 1 5 - / when {kind} all do each leave self", "d 1 5 -"]
            self.assertEqual(self.calls(texts, (0, 0), (kind, 1, amount), lying=(0,)), [])
            self.assertEqual(self.calls(texts, (0, 0), (kind, 1, amount)), [(0, 0, 0)])
        for kind in ("lose", "score", "draw"):
            texts = [f"c 1 5 - / when {kind} all do each leave self"]
            self.assertEqual(self.calls(texts, (0,), (kind, -3, 1), 3, gone=(False, False, True)), [])
            self.assertEqual(self.calls(texts, (0,), (kind, -2, 1), 3, gone=(False, False, True)), [(0, 0, 0)])

    def test_rules_of_cards_that_do_not_lie_are_not_called(self):
        texts = ["c 1 5 - / when lose all do each leave self"] * 2
        self.assertEqual(self.calls(texts, (0, 1), ("lose", -1, 1), lying=(1,), heap=(0,)), [(1, 1, 0)])

    def test_a_mute_card_calls(self):
        texts = ["c 1 5 - / hold mute all / when lose all do each leave self"]
        self.assertEqual(self.calls(texts, (0,), ("lose", -1, 1)), [(0, 0, 1)])


class Done(unittest.TestCase):
    def do(self, deed, texts, owners, number=0, keeper=0, choices=(), players=2, **parts):
        cards, owners, table = all_lying(texts, owners, players, **parts)
        deed = read_card("x 0 0 - / may 0 do " + deed).rules[0][2]
        ahead = copy.deepcopy((owners, table)), plain_cards(cards)
        choices = list(choices)
        self.table = table
        told = done(cards, owners, table, deed, number, keeper, choices)
        self.assertEqual(((owners, table), plain_cards(cards)), ahead)
        self.assertEqual([type(value) for value in (told,) + told], [tuple, tuple, list, list, list])
        return told

    def test_each_of_cards_by_number(self):
        texts = ["a 1 9 -", "b 1 9 m", "c 1 9 m"]
        table, log, calls, left = self.do("each hurt 2 mark m", texts, (0, 1, 0), lying=(2, 0, 1), choices=[5])
        self.assertEqual(table, altered(self.table, wounds=(0, 2, 2)))
        self.assertEqual(log, [(("hurt", 1, 2), [], ("hurt", 1, 2)), (("hurt", 2, 2), [], ("hurt", 2, 2))])
        self.assertEqual((calls, left), ([], [5]))

    def test_each_of_players_from_the_player_0_on(self):
        table, log, calls, left = self.do("each lose 2 all", [], (), players=4, gone=(False, True, False, False))
        self.assertEqual(table, altered(self.table, points=(18, 20, 18, 18)))
        self.assertEqual([entry[0] for entry in log], [("lose", -1, 2), ("lose", -3, 2), ("lose", -4, 2)])

    def test_each_kind(self):
        texts = ["a 1 9 m", "b 1 9 m", "c 1 9 -"]
        for deed, parts in (
            ("each leave mark m", {"lying": (2,), "heap": (0, 1)}),
            ("each hurt 3 mark m", {"wounds": (3, 3, 0)}),
            ("each gain n mark m", {"marks": (("m", "n"), ("m", "n"), ())}),
            ("each lack m mark m", {"marks": ((), (), ())}),
            ("each lose 4 mine", {"points": (16, 20)}),
            ("each score 4 not mine", {"scores": (0, 4)}),
            ("each draw 1 all", {"decks": ((), ()), "hands": ((3,), (4,))}),
        ):
            texts_all = texts + ["d 1 9 -", "e 1 9 -"]
            want = {"marks": parts.get("marks", (("m",), ("m",), ())) + ((), ())}
            want["wounds"] = parts.get("wounds", (0, 0, 0)) + (0, 0)
            table = self.do(deed, texts_all, (0, 0, 1, 0, 1), lying=(0, 1, 2), decks=((3,), (4,)))[0]
            self.assertEqual(table, altered(self.table, **{**parts, **want}), deed)

    def test_the_happening_of_a_leave_has_the_amount_0(self):
        self.assertEqual(self.do("each leave all", ["a 1 9 m"], (0,))[1], [(("leave", 0, 0), [], ("leave", 0, 0))])

    def test_one_is_chosen(self):
        texts = ["a 1 9 m", "b 1 9 -", "c 1 9 m", "d 1 9 m"]
        for choices, number, left in (([], 0, []), ([0, 7], 0, [7]), ([1], 2, []), ([5, 1], 3, [1]), ([-2], 2, [])):
            told = self.do("one hurt 2 mark m", texts, (0, 1, 0, 1), choices=choices, lying=(3, 1, 2, 0))
            self.assertEqual(told[1], [(("hurt", number, 2), [], ("hurt", number, 2))])
            self.assertEqual(told[3], left)

    def test_one_of_players_who_are_not_gone(self):
        for choice, thing in ((0, -1), (1, -3), (2, -4), (3, -1)):
            told = self.do("one score 1 all", [], (), choices=[choice], players=4, gone=(False, True, False, False))
            self.assertEqual(told[1], [(("score", thing, 1), [], ("score", thing, 1))])

    def test_one_way_takes_no_choice(self):
        self.assertEqual(self.do("one hurt 2 mark m", ["a 1 9 m", "b 1 9 -"], (0, 0), choices=[1])[3], [1])
        self.assertEqual(self.do("one lose 2 not mine", [], (), choices=[1])[3], [1])

    def test_no_way_at_all(self):
        for deed in ("one hurt 2 mark x", "each hurt 2 mark x", "one lose 1 self", "each draw 1 not all",
                     "one leave self"):
            told = self.do(deed, ["a 1 9 m"], (0,), number=3, choices=[4, 5])
            self.assertEqual(told, (self.table, [], [], [4, 5]))

    def test_asked_by_the_card_and_for_the_keeper_handed_in(self):
        texts = ["a 1 9 -", "b 1 9 -", "c 1 9 -"]
        for deed, number, keeper, hurt in (("each hurt 1 self", 1, 0, (0, 1, 0)), ("each hurt 1 mine", 0, 1, (0, 1, 1)),
                                           ("each hurt 1 not self", 2, 1, (1, 1, 0)),
                                           ("each hurt 1 self", 9, 0, (0, 0, 0))):
            table = self.do(deed, texts, (0, 1, 1), number, keeper)[0]
            self.assertEqual(part(table, "wounds"), hurt)
        self.assertEqual(part(self.do("each lose 1 mine", texts, (0, 1, 1), 0, 1)[0], "points"), (20, 19))

    def test_keepers_of_the_sight(self):
        texts = ["a 1 9 - / hold steal mark t", "b 1 9 t", "c 1 9 -"]
        self.assertEqual(part(self.do("each hurt 1 mine", texts, (0, 1, 1))[0], "wounds"), (1, 1, 0))

    def test_the_ways_are_those_at_the_begin(self):
        # The first gain takes the mark from the others' whom: they are taken all the same.
        texts = ["a 1 9 - / hold mute mark n", "b 1 9 -", "c 1 9 -"]
        self.assertEqual(part(self.do("each gain n not mark n", texts, (0, 0, 0))[0], "marks"), (("n",),) * 3)
        texts = ["a 1 9 -", "b 1 9 - / hold gain k mark n"]
        self.assertEqual(part(self.do("each gain n mark n", texts, (0, 0))[0], "marks"), ((), ()))

    def test_a_card_that_lies_no_more_in_its_turn(self):
        texts = ["a 1 9 -", "b 1 9 -", "c 1 9 - / instead leave mark m do here", "d 1 9 m"]
        table, log, calls, left = self.do("each leave not self", texts, (0, 0, 0, 1), number=1,
                                          marks=(("m",), (), (), ("m",)))
        # What was to happen to the card 0 happens to the card 2, so nothing is put in the place of the last one.
        self.assertEqual(log, [(("leave", 0, 0), [(0, 2, 0, ("leave", 2, 0))], ("leave", 2, 0)),
                               (("leave", 3, 0), [], ("leave", 3, 0))])
        self.assertEqual((part(table, "lying"), part(table, "heap")), ((0, 1), (2, 3)))

    def test_the_sight_come_to_counts_for_what_is_put_in_place(self):
        texts = ["a 1 9 - / instead gain not mine do none", "b 1 9 - / hold steal mark n", "c 1 9 -"]
        log = self.do("each gain n all", texts, (0, 1, 0))[1]
        # Once the card 0 has the mark the player 1 keeps it: of the others the card 1 is mine then, not the card 2.
        self.assertEqual(log, [(("gain", 0, "n"), [], ("gain", 0, "n")), (("gain", 1, "n"), [], ("gain", 1, "n")),
                               (("gain", 2, "n"), [(0, 0, 0, None)], None)])
        texts = ["a 1 9 -", "b 1 9 - / hold gain k not self", "c 1 9 - / instead leave mark k do none"]
        log = self.do("each leave mark n", texts, (0, 0, 0), marks=((), ("n",), ("n",)))[1]
        # The card that gives the mark k left ahead, so the rule doesn't fit any more.
        self.assertEqual(log, [(("leave", 1, 0), [], ("leave", 1, 0)), (("leave", 2, 0), [], ("leave", 2, 0))])

    def test_what_came_of_it_is_done(self):
        texts = ["a 1 9 - / instead lose mine do as score / instead lose not mine do less 3"]
        table, log, calls, left = self.do("each lose 5 all", texts, (1,))
        self.assertEqual(table, altered(self.table, points=(18, 20), scores=(0, 5)))
        self.assertEqual(log, [(("lose", -1, 5), [(0, 0, 1, ("lose", -1, 2))], ("lose", -1, 2)),
                               (("lose", -2, 5), [(1, 0, 0, ("score", -2, 5))], ("score", -2, 5))])

    def test_none_is_logged_and_does_and_calls_nothing(self):
        texts = ["a 1 9 - / instead hurt all do none / when hurt all do each draw 1 all"]
        self.assertEqual(self.do("each hurt 2 all", texts, (1,)),
                         (self.table, [(("hurt", 0, 2), [(1, 0, 0, None)], None)], [], []))

    def test_what_came_of_it_calls(self):
        texts = ["a 1 9 - / instead lose all do as score", "b 1 9 - / when lose all do each draw 1 mine",
                 "c 1 9 - / when score all do each draw 1 mine"]
        self.assertEqual(self.do("each lose 5 mine", texts, (0, 0, 1))[2], [(1, 2, 0)])

    def test_called_ones_of_all_in_turn(self):
        texts = ["a 1 9 - / when hurt all do each draw 1 mine", "b 1 9 - / when hurt not self do each draw 1 mine",
                 "c 1 9 - / when leave all do each draw 1 mine"]
        calls = self.do("each hurt 1 all", texts, (0, 1, 1), lying=(2, 1, 0))[2]
        self.assertEqual(calls, [(1, 1, 0), (0, 0, 0), (0, 0, 0), (1, 1, 0), (0, 0, 0)])

    def test_leavings_call_while_they_lie(self):
        texts = ["a 1 9 - / when leave all do each draw 1 mine", "b 1 9 - / when leave all do each draw 1 mine"]
        self.assertEqual(self.do("each leave all", texts, (0, 1))[2], [(0, 0, 0), (1, 1, 0), (1, 1, 0)])

    def test_choices_go_on_from_one_to_the_next(self):
        two = "a 1 9 - / instead hurt self do less 3 / instead hurt self do more 2"
        table, log, calls, left = self.do("each hurt 1 all", [two, two, two], (0, 0, 0), choices=[1, 0, 1, 8])
        self.assertEqual((part(table, "wounds"), left), ((0, 2, 0), [8]))
        table, log, calls, left = self.do("one hurt 1 all", [two, two, two], (0, 0, 0), choices=[2, 1, 1, 8])
        self.assertEqual((log, left), ([(("hurt", 2, 1), [(0, 2, 1, ("hurt", 2, 3)), (0, 2, 0, ("hurt", 2, 0))],
                                         ("hurt", 2, 0))], [1, 8]))

    def test_the_choices_handed_in_stay(self):
        cards, owners, table = all_lying(["a 1 9 -", "b 1 9 -"], (0, 0))
        for words in ("one hurt 1 all", "one hurt 1 mark m", "each hurt 1 all"):
            deed = read_card("x 0 0 - / may 0 do " + words).rules[0][2]
            choices = [1, 2]
            told = done(cards, owners, table, deed, 0, 0, choices)
            told[3].append(9)
            self.assertEqual(choices, [1, 2])

    def test_like_the_second_telling(self):
        logged = called_ones = 0
        for rng in seeded(700):
            cards, owners, table = random_table(rng)
            deeds = [rule[-1] for card in cards for rule in card.rules if rule[0] in ("when", "may")]
            for deed in deeds[:6]:
                number, keeper = rng.randrange(len(cards)), rng.randrange(len(table[0]))
                choices = random_choices(rng)
                left, plain = list(choices), PlainTable(cards, owners, table)
                log, calls = plain.do(deed, number, keeper, left)
                told = done(cards, owners, table, deed, number, keeper, choices)
                self.assertEqual(told, (plain.told(), log, calls, left))
                logged, called_ones = logged + len(log), called_ones + len(calls)
        self.assertGreater(min(logged, called_ones), 500)

    def test_happen_and_called_like_the_second_telling(self):
        for rng in seeded(300, 5000):
            cards, owners, table = random_table(rng)
            places = table[3] + table[4] + table[5:7]
            nowhere = [n for n in range(len(cards)) if not any(n in place for place in places)]
            things = [("come", n, 0) for n in nowhere] + [("leave", n, 0) for n in range(len(cards))]
            things += [("hurt", n, rng.randrange(3)) for n in range(len(cards))]
            things += [(kind, n, rng.choice("abc")) for n in range(len(cards)) for kind in ("gain", "lack")]
            things += [(kind, -1 - p, rng.randrange(4)) for p in range(len(table[0]))
                       for kind in ("lose", "score", "draw")]
            for happening in things:
                plain = PlainTable(cards, owners, table)
                calls = plain.happen(happening)
                self.assertEqual(called(cards, owners, table, happening), calls)
                self.assertEqual(happen(cards, table, happening), plain.told())


if __name__ == "__main__":
    unittest.main()
