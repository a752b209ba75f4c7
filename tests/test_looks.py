import copy
import unittest

from helper import PlainTable, all_lying, altered, part, plain_cards, random_choices, random_table, seeded
from turnstack.looks import looked


class Looked(unittest.TestCase):
    def look(self, texts, owners, choices=(), players=2, **parts):
        cards, owners, table = all_lying(texts, owners, players, **parts)
        ahead = copy.deepcopy((owners, table)), plain_cards(cards)
        self.table, choices = table, list(choices)
        handed = list(choices)
        told = looked(cards, owners, table, handed)
        self.assertEqual(((owners, table), plain_cards(cards), handed), ahead + (choices,))
        self.assertEqual([type(value) for value in (told,) + told], [tuple, tuple, list, list, list])
        told[3].append(0)
        self.assertEqual(handed, choices)
        told[3].pop()
        return told

    def test_nothing_to_do(self):
        told = self.look(["a 1 2 -", "b 1 1 -"], (0, 1), [3, 4], wounds=(1, 0), points=(1, 20))
        self.assertEqual(told, (self.table, [], [], [3, 4]))

    def test_points_of_0_and_below(self):
        for points, gone in (((0, 5), (True, False)), ((5, -3), (False, True)), ((0, -9), (True, True)),
                             ((1, 1), (False, False))):
            table, log, calls, left = self.look([], (), points=points)
            self.assertEqual((table, log, calls), (altered(self.table, gone=gone), [], []))

    def test_several_are_gone_at_once(self):
        texts = ["a 1 9 m", "b 1 9 m", "c 1 9 m", "d 1 9 m"]
        parts = {"marks": (("x",), (), ("y",), ("z",)), "wounds": (1, 2, 3, 4), "points": (0, 5, -1, 5)}
        table, log, calls, left = self.look(texts, (0, 1, 2, 3), [1], 4, lying=(2, 3, 1, 0), **parts)
        self.assertEqual(table, altered(
            self.table, gone=(True, False, True, False), lying=(3, 1), heap=(0, 2),
            marks=(("m",), (), ("m",), ("z",)), wounds=(0, 2, 0, 4)))
        self.assertEqual((log, calls, left), ([], [], [1]))

    def test_going_is_no_happening(self):
        texts = ["a 1 9 - / when leave all do each draw 1 all", "b 1 9 - / when leave all do each draw 1 all",
                 "c 1 9 - / instead leave all do none"]
        table, log, calls, left = self.look(texts, (0, 1, 0), points=(0, 5))
        self.assertEqual((part(table, "lying"), part(table, "heap"), log, calls), ((1,), (0, 2), [], []))

    def test_hands_and_decks_stay(self):
        parts = {"lying": (), "hands": ((0,), (2,)), "decks": ((1,), (3,))}
        table = self.look(["a 1 9 -"] * 4, (0, 0, 1, 1), points=(0, 0), **parts)[0]
        self.assertEqual(table, altered(self.table, gone=(True, True)))

    def test_cards_go_with_their_owners_not_with_their_keepers(self):
        texts = ["a 1 9 - / hold steal mark t", "b 1 9 t", "c 1 9 -"]
        table = self.look(texts, (0, 1, 1), points=(0, 5))[0]
        self.assertEqual((part(table, "lying"), part(table, "heap")), ((1, 2), (0,)))
        table = self.look(texts, (0, 1, 1), points=(5, 0))[0]
        self.assertEqual((part(table, "lying"), part(table, "heap")), ((0,), (1, 2)))

    def test_one_who_was_gone_ahead_stays_so(self):
        table = self.look(["a 1 9 -"], (1,), 3 * [0], 3, points=(5, 0, 5), gone=(False, True, False))[0]
        self.assertEqual(table, self.table)
        table = self.look([], (), [], 3, points=(5, 7, 0), gone=(False, True, False))[0]
        self.assertEqual(part(table, "gone"), (False, True, True))

    def test_wounds_as_many_as_the_force_or_more(self):
        texts = ["a 1 2 m", "b 1 2 m", "c 1 2 m", "d 1 0 m"]
        table, log, calls, left = self.look(texts, (0, 1, 0, 1), [6], wounds=(1, 2, 3, 0), lying=(3, 2, 1, 0),
                                            marks=((), (), (), ()))
        self.assertEqual(table, altered(self.table, lying=(0,), heap=(1, 2, 3), wounds=(1, 0, 0, 0),
                                        marks=((), ("m",), ("m",), ("m",))))
        self.assertEqual(log, [(("leave", n, 0), [], ("leave", n, 0)) for n in (1, 2, 3)])
        self.assertEqual((calls, left), ([], [6]))

    def test_the_force_of_the_sight(self):
        texts = ["a 1 9 - / hold less 3 mark x / hold more 2 mark y", "b 1 2 x", "c 1 2 y", "d 1 2 -"]
        table = self.look(texts, (0, 1, 1, 1), wounds=(0, 0, 3, 1))[0]
        self.assertEqual((part(table, "lying"), part(table, "heap")), ((0, 2, 3), (1,)))

    def test_the_sight_behind_the_going(self):
        # The card that made the other one strong goes with its owner, in the same look.
        texts = ["a 1 9 - / hold more 5 all", "b 1 2 -"]
        table, log, calls, left = self.look(texts, (0, 1), [], 3, wounds=(0, 3), points=(0, 5, 5))
        self.assertEqual((part(table, "lying"), part(table, "heap")), ((), (0, 1)))
        self.assertEqual(log, [(("leave", 1, 0), [], ("leave", 1, 0))])

    def test_a_leaving_leads_to_another_look(self):
        texts = ["a 1 2 -", "b 1 2 - / hold more 5 mark m", "c 1 2 m", "d 1 2 m"]
        table, log, calls, left = self.look(texts, (0, 1, 0, 1), wounds=(2, 2, 4, 1))
        self.assertEqual(part(table, "lying"), (3,))
        self.assertEqual([entry[0] for entry in log], [("leave", 0, 0), ("leave", 1, 0), ("leave", 2, 0)])
        # The card 0 is found in the second look only, so it leaves behind those with greater numbers.
        texts = ["a 1 2 m", "b 1 2 -", "c 1 2 - / hold more 5 mark m"]
        log = self.look(texts, (0, 1, 0), wounds=(3, 2, 2))[1]
        self.assertEqual([entry[0] for entry in log], [("leave", 1, 0), ("leave", 2, 0), ("leave", 0, 0)])

    def test_those_found_leave_though_their_force_has_grown(self):
        # When the card 0 has left, the card 1 isn't made weak any more: but it was found with it.
        texts = ["a 1 1 - / hold less 3 not self", "b 1 5 -"]
        table, log, calls, left = self.look(texts, (0, 1), wounds=(1, 3))
        self.assertEqual((part(table, "lying"), len(log)), ((), 2))

    def test_a_leaving_that_is_turned_aside(self):
        texts = ["a 1 2 - / instead leave self do none / when leave all do each draw 1 all"]
        table, log, calls, left = self.look(texts, (0,), wounds=(2,))
        self.assertEqual((table, calls), (self.table, []))
        self.assertEqual(log, [(("leave", 0, 0), [(0, 0, 0, None)], None)])

    def test_the_last_look_is_logged_too(self):
        texts = ["a 1 2 - / instead leave self do none", "b 1 2 -"]
        log = self.look(texts, (0, 1), wounds=(2, 2))[1]
        aside = (("leave", 0, 0), [(0, 0, 0, None)], None)
        self.assertEqual(log, [aside, (("leave", 1, 0), [], ("leave", 1, 0)), aside])

    def test_here_takes_another_one(self):
        texts = ["a 1 2 -", "b 1 9 - / instead leave not self do here"]
        table, log, calls, left = self.look(texts, (0, 1), wounds=(2, 0))
        self.assertEqual(log, [(("leave", 0, 0), [(0, 1, 0, ("leave", 1, 0))], ("leave", 1, 0)),
                               (("leave", 0, 0), [], ("leave", 0, 0))])
        self.assertEqual((part(table, "lying"), part(table, "heap"), part(table, "wounds")), ((), (0, 1), (0, 0)))

    def test_one_found_that_lies_no_more(self):
        texts = ["a 1 2 -", "b 1 2 - / instead leave not self do here"]
        table, log, calls, left = self.look(texts, (0, 1), wounds=(2, 2))
        # The card 1 went in the place of the card 0: in its own turn it lies no more.
        self.assertEqual(log, [(("leave", 0, 0), [(0, 1, 0, ("leave", 1, 0))], ("leave", 1, 0)),
                               (("leave", 0, 0), [], ("leave", 0, 0))])

    def test_the_sight_come_to_for_what_is_put_in_place(self):
        texts = ["a 1 2 - / hold gain k mark p", "b 1 2 p", "c 1 9 - / instead leave mark k do none"]
        self.assertEqual(self.look(texts, (0, 1, 1), wounds=(2, 2, 0))[1],
                         [(("leave", 0, 0), [], ("leave", 0, 0)), (("leave", 1, 0), [], ("leave", 1, 0))])

    def test_what_a_look_calls(self):
        texts = ["a 1 2 - / when leave all do each draw 1 all", "b 1 2 - / when leave self do each draw 1 all",
                 "c 1 9 - / when leave all do each draw 1 all / when leave mine do each draw 1 all"]
        calls = self.look(texts, (0, 1, 1), wounds=(2, 2, 0))[2]
        self.assertEqual(calls, [(0, 0, 0), (1, 2, 0), (1, 1, 0), (1, 2, 0), (1, 2, 1)])

    def test_of_all_looks(self):
        texts = ["a 1 9 - / when leave all do each draw 1 all", "b 1 2 - / hold more 5 mark m", "c 1 2 m"]
        self.assertEqual(self.look(texts, (0, 1, 1), wounds=(0, 2, 4))[2], [(0, 0, 0), (0, 0, 0)])

    def test_called_for_one_who_is_gone(self):
        # The card 0 is kept by the player 2, who goes; it stays with its owner, and is called for him then.
        texts = ["a 1 9 t / when leave all do each draw 1 all", "b 1 9 - / hold steal mark t", "c 1 1 -"]
        parts = {"wounds": (0, 0, 1), "points": (5, 5, 0)}
        self.assertEqual(self.look(texts, (0, 2, 1), [], 3, **parts)[2], [(0, 0, 0)])
        # A player who was gone ahead keeps a card of another one by a card of his that still lies.
        self.assertEqual(self.look(texts, (0, 2, 1), [], 3, gone=(False, False, True), **parts)[2], [])
        self.assertEqual(self.look(texts, (0, 2, 1), [], 3, wounds=(0, 0, 1))[2], [(2, 0, 0)])

    def test_choices_go_on_from_look_to_look(self):
        aside = "instead leave mark m do none / instead leave mark m do here"
        texts = ["a 1 9 - / " + aside, "b 1 2 m", "c 1 2 m"]
        table, log, calls, left = self.look(texts, (0, 1, 1), [0, 1, 7, 8], wounds=(0, 2, 2))
        # In the first look 1 stays and 0 goes in the place of 2; then there is no choice left to be made.
        self.assertEqual([entry[2] for entry in log], [None, ("leave", 0, 0), ("leave", 1, 0), ("leave", 2, 0)])
        self.assertEqual(left, [7, 8])
        table, log, calls, left = self.look(texts + ["d 1 0 -"], (0, 1, 1, 1), [0, 0, 2, 1, 5], wounds=(0, 2, 2, 0))
        # The first look takes the card 3 alone; the second one asks anew for both others.
        self.assertEqual([entry[2] for entry in log], [None, None, ("leave", 3, 0), None, ("leave", 0, 0),
                                                       ("leave", 1, 0), ("leave", 2, 0)])
        self.assertEqual(left, [5])

    def test_like_the_second_telling(self):
        logged = called_ones = 0
        for rng in seeded(1200):
            cards, owners, table = random_table(rng)
            choices = random_choices(rng)
            left, plain = list(choices), PlainTable(cards, owners, table)
            log, calls = plain.look(left)
            self.assertEqual(looked(cards, owners, table, choices), (plain.told(), log, calls, left))
            logged, called_ones = logged + len(log), called_ones + len(calls)
        self.assertGreater(min(logged, called_ones), 200)


if __name__ == "__main__":
    unittest.main()
