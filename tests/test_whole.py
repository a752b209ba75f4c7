"""What is promised over the whole program: its interface, that nothing is changed or hangs on chance, whole fights."""

import importlib
import inspect
import os
import pathlib
import re
import subprocess
import sys
import unittest

from helper import (
    all_let, come, do, fight_card, of_stand, part, plain_of, random_choices, random_decks, random_deed, seeded,
    unscored, whole,
)
from turnstack.cards import read_card, show_card
from turnstack.desk import Desk
from turnstack.errors import NotSame
from turnstack.fight import Fight
from turnstack.layers import layered
from turnstack.looks import looked
from turnstack.rings import ring
from turnstack.saves import read_fight, written
from turnstack.table import done, rows_of, sight_of
from turnstack.views import told

TOP = pathlib.Path(__file__).resolve().parent.parent

INTERFACE = """
errors NotNow(why, card)
whoms is_name(word) is_number(word) read_whom(text)
cards read_card(text) show_card(card)
layers first_sight(lying) changes(lying) reach(lying, sight, change) behind(lying, sight, change)
layers leans(lying, sight, one, other) waits(lying, sight, some, one) layered(lying)
turns chosen(ways, choices) rules_for(lying, sight, happening, used) turned(happening, word, value, number)
turns put_in_place(lying, sight, happening, choices)
table begun(decks) rows_of(cards, owners, table) sight_of(cards, owners, table) happen(cards, table, happening)
table called(cards, owners, table, happening) done(cards, owners, table, deed, number, keeper, choices)
looks looked(cards, owners, table, choices)
fight Fight(decks) Fight.play(player, number) Fight.use(player, number, place) Fight.let(player, choices=None)
fight Fight.may_do(player) Fight.stand() Fight.log() Fight.cards() Fight.owners() Fight.many()
fight Fight.again(number, many) Fight.back(number)
rings ring(fight)
views told(fight, player)
saves written(fight) read_fight(text)
desk Desk(text) Desk.say(row)
"""

# A card whose rules go round in a ring, so that deeds lead back to the same stand but for the scores.
LOOPS = ("r 0 9 a / when come self do each score 0 mine / when score mine do each score 3 mine",
         "r 0 9 - / when come self do each score 0 mine / when score mine do each lose 0 mine"
         " / when lose mine do each score 2 all",
         "r 0 9 b / may 0 do one score 2 all", "r 0 9 - / may 0 do each hurt 0 all / when hurt self do one score 1 all",
         "r 0 9 - / may 0 do each gain a self / when gain self do each lack a self / instead lack self do none")


class Interface(unittest.TestCase):
    def test_names_and_arguments(self):
        asked = 0
        for row in INTERFACE.strip().split("\n"):
            module = importlib.import_module("turnstack." + row.split(" ")[0])
            for name, arguments in re.findall(r"([A-Za-z_.]+)\(([^)]*)\)", row):
                value = module
                for word in name.split("."):
                    value = getattr(value, word)
                found = str(inspect.signature(value)).strip("()")
                self.assertEqual(found.removeprefix("self").removeprefix(", "), arguments, (row, name))
                asked += 1
        self.assertEqual(asked, 42)

    def test_by_their_names(self):
        fight = Fight(decks=[["a 0 5 - / may 0 do each score 1 mine"], []])
        fight.play(player=0, number=0)
        fight.let(player=0, choices=[1])
        fight.let(player=1, choices=None)
        fight.use(player=0, number=0, place=0)
        fight.let(0)
        fight.let(1)
        fight.again(number=3, many=4)
        fight.back(number=0)
        self.assertEqual((ring(fight=fight), told(fight=fight, player=1)[1]), (None, (5, 0)))
        self.assertEqual(Desk(text=written(fight=read_fight(text=written(fight)))).say(row="scores"), "5 0")


class NothingChanges(unittest.TestCase):
    def fight(self, rng):
        fight = Fight(random_decks(rng, rng.randrange(2, 5)))
        for _ in range(rng.randrange(40)):
            deed = random_deed(rng, fight)
            if deed is not None:
                do(fight, deed)
        return fight

    def all_told(self, fight):
        return [whole(fight), ring(fight), written(fight),
                [told(fight, player) for player in range(len(of_stand(fight, "gone")))]]

    def test_asking_changes_nothing_and_the_same_is_told_again(self):
        for rng in seeded(15, 100):
            fight = self.fight(rng)
            self.assertEqual(repr(self.all_told(fight)), repr(self.all_told(fight)))

    def test_what_was_told_stays_when_the_fight_goes_on(self):
        for rng in seeded(15, 200):
            fight = self.fight(rng)
            answers = self.all_told(fight)
            ahead = repr(answers)
            for _ in range(10):
                deed = random_deed(rng, fight)
                if deed is not None:
                    do(fight, deed)
                self.all_told(fight)
            fight.back(fight.many())
            self.assertEqual(repr(answers), ahead)

    def test_the_asker_changes_what_was_told(self):
        def spoil(value):
            if isinstance(value, (list, tuple)):
                for one in value:
                    spoil(one)
            if isinstance(value, list):
                value.append("spoilt")
                value.reverse()

        for rng in seeded(15, 300):
            fight = self.fight(rng)
            ahead = repr(self.all_told(fight))
            spoil(self.all_told(fight))
            for card in fight.cards():
                card.name, card.cost, card.force, card.marks, card.rules = "spoilt", 99, 99, ("z",), ()
            self.assertEqual(repr(self.all_told(fight)), ahead)

    def test_what_is_handed_in_stays(self):
        for rng in seeded(15, 400):
            decks = random_decks(rng, 3)
            choices = random_choices(rng)
            ahead = repr((decks, choices))
            fight = Fight(decks)
            for _ in range(20):
                deed = random_deed(rng, fight)
                if deed is not None:
                    do(fight, (*deed[:2], choices) if deed[0] == "let" else deed)
            cards, owners, table = fight.cards(), fight.owners(), fight.stand()[0]
            shown = repr(([show_card(card) for card in cards], owners, table))
            looked(cards, owners, table, choices)
            for number, card in enumerate(cards):
                for rule in card.rules:
                    if rule[0] in ("when", "may"):
                        done(cards, owners, table, rule[-1], number, owners[number], choices)
            self.assertEqual(repr((decks, choices)), ahead)
            self.assertEqual(repr(([show_card(card) for card in cards], owners, table)), shown)

    def test_nothing_hangs_on_chance_or_on_where_it_runs(self):
        """The same answers in processes that hash texts differently, one of them in a folder of its own."""
        code = (
            "import sys; sys.path[:0] = sys.argv[1:]\n"
            "from test_whole import NothingChanges, seeded\n"
            "case = NothingChanges()\n"
            "print([case.all_told(case.fight(rng)) for rng in seeded(4, 500)])\n"
        )
        answers = set()
        for seed, folder in (("0", TOP), ("1", TOP), ("7", pathlib.Path("/"))):
            run = subprocess.run(
                [sys.executable, "-c", code, str(TOP), str(TOP / "tests")], cwd=folder, capture_output=True, text=True,
                env={**os.environ, "PYTHONHASHSEED": seed, "PYTHONDONTWRITEBYTECODE": "1"}, check=True,
            )
            answers.add(run.stdout)
        self.assertEqual(len(answers), 1)
        self.assertIn("deeds", answers.pop())


class WholeFights(unittest.TestCase):
    """Fights by chance, with holds, turns, calls and looks, against what doing things one by one leads to."""

    def decks(self, rng):
        decks = random_decks(rng, rng.randrange(2, 5))
        for deck in decks:
            for place in range(len(deck)):
                if " hold " not in deck[place] and rng.random() < 0.4:
                    deck[place] = rng.choice(LOOPS)
        return decks

    def goes_on(self, rng, fight, plain):
        """One deed by chance, done in both tellings; whether there was one."""
        deed = random_deed(rng, fight)
        if deed is None:
            return False
        do(fight, deed)
        if deed[0] == "let":
            plain.let(deed[2] if len(deed) > 2 else [])
        else:
            do(plain, deed)
        self.assertEqual((fight.stand(), fight.log()), (plain.stand(), plain.log))
        return True

    def test_sights_in_whatever_order_the_cards_are_looked_at(self):
        for rng in seeded(20, 1000):
            fight = Fight(self.decks(rng))
            for _ in range(40):
                deed = random_deed(rng, fight)
                if deed is None:
                    break
                do(fight, deed)
                rows = rows_of(fight.cards(), fight.owners(), fight.stand()[0])
                answer = layered(rows)
                rng.shuffle(rows)
                self.assertEqual(layered(rows), answer)
                self.assertEqual(answer[0], sight_of(fight.cards(), fight.owners(), fight.stand()[0]))
                self.assertEqual(len({change for change, reach in answer[1]}), len(answer[1]))

    def test_looks_come_to_rest(self):
        for rng in seeded(20, 1100):
            fight = Fight(self.decks(rng))
            for _ in range(40):
                table = fight.stand()[0]
                self.assertEqual(looked(fight.cards(), fight.owners(), table, [])[0], table)
                deed = random_deed(rng, fight)
                if deed is None:
                    break
                do(fight, deed)

    def test_what_may_be_done_is_just_what_is_not_refused(self):
        for rng in seeded(12, 1200):
            fight = Fight(self.decks(rng))
            for _ in range(25):
                plain = plain_of(fight)
                for player in range(4):
                    self.assertEqual(fight.may_do(player), plain.may_do(player))
                deed = random_deed(rng, fight)
                if deed is None:
                    break
                do(fight, deed)

    def test_repeats(self):
        """Whatever number of the last deeds: refused or done as the stands tell; done, as one by one."""
        many_done = grew = 0
        for rng in seeded(60, 1300):
            decks = self.decks(rng)
            fight, rows = Fight(decks), []
            for _ in range(40):
                for number in range(-1, min(len(rows), 9) + 2):
                    many = rng.choice((0, 1, 2, 5))
                    deeds = [deed for deed, stand in rows[len(rows) - number:]] if 1 <= number <= len(rows) else []
                    same = deeds and unscored(rows[-number][1]) == unscored(fight.stand())
                    if not same or "again" in [deed[0] for deed in deeds]:
                        with self.assertRaises(NotSame):
                            fight.again(number, many)
                        continue
                    other = plain_of(fight)
                    for deed in deeds * many:
                        other.let(*deed[2:] or ([],)) if deed[0] == "let" else do(other, deed)
                    ahead = fight.stand()
                    fight.again(number, many)
                    self.assertEqual((fight.stand(), fight.log()), (other.stand(), []))
                    self.assertEqual(fight.many(), len(rows) + 1)
                    self.assertEqual(read_fight(written(fight)).stand(), fight.stand())
                    many_done += 1
                    grew += fight.stand() != ahead
                    if rng.random() < 0.1:
                        rows.append((("again", number, many), ahead))
                        break
                    fight.back(1)
                    self.assertEqual(fight.stand(), ahead)
                deed = random_deed(rng, fight)
                if deed is None:
                    break
                rows.append((deed, fight.stand()))
                do(fight, deed)
        self.assertGreater(many_done, 200)
        self.assertGreater(grew, 50)

    def test_rings_are_what_lettings_one_by_one_lead_to(self):
        rings = 0
        for rng in seeded(40, 1400):
            fight = Fight(self.decks(rng))
            for _ in range(25):
                found = ring(fight)
                if found is not None:
                    rings += 1
                    plain = plain_of(fight)
                    stands = [unscored(plain.stand())]
                    for _ in range(sum(found)):
                        self.assertEqual(plain.may_do(plain.word), [("let",)])
                        plain.let([])
                        stands.append(unscored(plain.stand()))
                    self.assertEqual(stands[found[0]], stands[-1])
                    self.assertEqual(len(set(stands)), len(stands) - 1)
                deed = random_deed(rng, fight)
                if deed is None:
                    break
                do(fight, deed)
        self.assertGreater(rings, 20)

    def test_taking_back_writing_and_reading(self):
        for rng in seeded(40, 1500):
            decks = self.decks(rng)
            fight = Fight(decks)
            plain, stands = plain_of(fight), [fight.stand()]
            for _ in range(50):
                chance = rng.random()
                if chance < 0.1:
                    number = rng.randrange(len(stands))
                    fight.back(number)
                    stands = stands[:len(stands) - number]
                    self.assertEqual((fight.stand(), fight.log()), (stands[-1], []))
                    plain = plain_of(fight)
                elif chance < 0.2:
                    fight = read_fight(written(fight))
                    self.assertEqual((fight.stand(), fight.many()), (stands[-1], len(stands) - 1))
                elif self.goes_on(rng, fight, plain):
                    stands.append(fight.stand())

    def test_hidden_cards(self):
        """The same deeds, from the begin on, with other texts for all cards that he never gets to know."""
        steps = 0
        for rng in seeded(40, 1600):
            decks = self.decks(rng)
            player = rng.randrange(len(decks))
            fight, views = Fight(decks), []
            for _ in range(50):
                views.append((told(fight, player), fight.log(), fight.may_do(player), ring(fight)))
                deed = random_deed(rng, fight)
                if deed is None:
                    break
                do(fight, deed)
            views.append((told(fight, player), fight.log(), fight.may_do(player), ring(fight)))
            known = {number for view in views for number, text in view[0][16]}
            numbers = iter(range(16))
            other = Fight([[text if next(numbers) in known else fight_card(rng) for text in deck] for deck in decks])
            for view, deed in zip(views, fight.deeds() + [None]):
                self.assertEqual((told(other, player), other.log(), other.may_do(player), ring(other)), view)
                steps += len(known) < len(fight.cards())
                if deed is not None:
                    do(other, deed)
        self.assertGreater(steps, 500)

    def test_cards_are_each_in_one_place(self):
        for rng in seeded(25, 1700):
            fight = Fight(self.decks(rng))
            for _ in range(60):
                table = fight.stand()[0]
                places = [n for name in ("decks", "hands") for numbers in part(table, name) for n in numbers]
                places += part(table, "lying") + part(table, "heap")
                places += tuple(one[2] for one in of_stand(fight, "pile") if one[0] == "card")
                self.assertEqual(sorted(places), list(range(len(fight.cards()))))
                deed = random_deed(rng, fight)
                if deed is None:
                    break
                do(fight, deed)


class ARing(unittest.TestCase):
    def test_from_the_desk_to_the_repeat(self):
        """A ring is asked, done once and done again many times; the same as all of it one by one."""
        text = written(Fight([[LOOPS[1], "p 0 5 -"], ["q 0 5 - / hold more 1 all"]]))
        one, other = Desk(text), Desk(text)
        for desk in (one, other):
            for row in ("play 0 0", "let 0", "let 1"):
                self.assertEqual(desk.say(row), "ok")
        begin, many = [int(word) for word in one.say("ring").split(" ")]
        self.assertEqual((begin, many), (2, 4))
        lets = ["let 0", "let 1"] * 50
        for row in lets[:begin + many] + [f"again {many} 12"]:
            self.assertEqual(one.say(row), "ok")
        for row in lets[:begin] + lets[:many] * 13:
            self.assertEqual(other.say(row), "ok")
        for row in ("scores", "points", "may 0", "card 0", "ring"):
            self.assertEqual(one.say(row), other.say(row))
        self.assertEqual(Desk(one.say("text")).say("scores"), other.say("scores"))

    def test_a_card_read_and_told_again(self):
        fight = Fight([list(LOOPS[:3]), list(LOOPS[3:])])
        come(fight, 0)
        all_let(fight)
        self.assertEqual([show_card(card) for card in read_fight(written(fight)).cards()], list(LOOPS))
        self.assertEqual([read_card(text) for text in LOOPS], fight.cards())


if __name__ == "__main__":
    unittest.main()
