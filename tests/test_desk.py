"""The desk: each row with its answer, and the rows that are refused."""

import unittest

from helper import of_stand, random_choices, random_decks, seeded, whole
from turnstack.desk import Desk
from turnstack.errors import FightError, NoCard, NoFight, NoRow, NotNow, NotSame
from turnstack.fight import Fight
from turnstack.rings import ring
from turnstack.saves import read_fight, written

SIXTY = "9" * 60
PLAIN = "c 0 5 -"
USED = "u 1 3 a,b / may 1 do one hurt 1 all / may 6 do each score 1 mine / may 0 do each lose 3 not mine"
LOOP = "r 0 9 - / when come self do each score 0 mine / when score mine do each score 3 mine"
BLOW = "b 0 5 - / when come self do each lose 25 not mine"
REFUSALS = (NoCard, NoFight, NoRow, NotNow, NotSame)


def text_of(*decks):
    return written(Fight([list(deck) for deck in decks]))


def said(desk, *rows):
    return [desk.say(row) for row in rows]


def come_rows(player, number, players=2):
    """The rows by which a card comes in its player's turn."""
    return [f"play {player} {number}"] + [f"let {(player + k) % players}" for k in range(players)]


class Answers(unittest.TestCase):
    def test_deeds(self):
        desk = Desk(text_of([LOOP], [PLAIN]))
        rows = ["play 0 0", "let 0", "let 1 4 -5 0", "let 0", "let 1", "let 0 " + SIXTY, "let 1 -" + SIXTY,
                "again 2 " + SIXTY]
        for number, row in enumerate(rows):
            self.assertEqual(desk.say(row), "ok")
            self.assertEqual(desk.say("text").split("\n")[5:], rows[:number + 1])
        self.assertEqual(desk.say("scores"), "3" + "0" * 60 + " 0")

    def test_use(self):
        desk = Desk(text_of([USED], []))
        self.assertEqual(said(desk, *come_rows(0, 0), "use 0 0 0", "use 0 0 2", "let 0", "let 1", "points"),
                         ["ok"] * 7 + ["20 17"])

    def test_choices_are_taken(self):
        desk = Desk(text_of(["a 0 9 - / may 0 do one score 1 all"], []))
        said(desk, *come_rows(0, 0))
        for choices, scores in (("", "1 0"), (" 1", "1 1"), (" 0", "2 1"), (" -1", "2 2"), (" " + SIXTY, "2 3")):
            said(desk, "use 0 0 0", "let 0 1", "let 1" + choices)
            self.assertEqual(desk.say("scores"), scores)

    def test_back(self):
        desk = Desk(text_of([LOOP], []))
        texts = [desk.say("text")]
        for row in come_rows(0, 0) + ["let 0", "let 1", "let 0", "let 1", "again 2 5"]:
            desk.say(row)
            texts.append(desk.say("text"))
        self.assertEqual(said(desk, "back 0", "text"), ["ok", texts[-1]])
        self.assertEqual(said(desk, "back 1", "text", "scores"), ["ok", texts[-2], "3 0"])
        self.assertEqual(said(desk, "back 3", "text"), ["ok", texts[-5]])
        self.assertEqual(said(desk, "back 4", "text", "may 0"), ["ok", texts[0], "play 0; let"])

    def test_may(self):
        desk = Desk(text_of([USED, PLAIN, "d 5 1 -"], [PLAIN], [PLAIN]))
        self.assertEqual(said(desk, "may 0", "may 1", "may 2"), ["play 0; play 1; play 2; let", "", ""])
        said(desk, *come_rows(0, 0, 3))
        self.assertEqual(said(desk, "may 0", "may 1"), ["play 1; use 0 0; use 0 2; let", ""])
        desk.say("let 0")
        self.assertEqual(said(desk, "may 0", "may 1", "may 2"), ["", "let", ""])

    def test_may_of_a_fight_that_is_over_and_of_one_who_is_gone(self):
        desk = Desk(text_of([BLOW], []))
        said(desk, *come_rows(0, 0), "let 0", "let 1")
        self.assertEqual(said(desk, "may 0", "may 1"), ["", ""])
        desk = Desk(text_of(["s 0 9 - / when come self do one lose 20 not mine"], [], []))
        said(desk, *come_rows(0, 0, 3), "let 0", "let 1", "let 2")
        self.assertEqual(said(desk, "may 0", "may 1", "let 0", "may 1", "may 2"), ["let", "", "ok", "", "let"])

    def test_card(self):
        desk = Desk(text_of([USED, PLAIN, "x 0 7 z"], [PLAIN]))
        said(desk, *come_rows(0, 0), *come_rows(0, 2))
        self.assertEqual(said(desk, "card 0", "card 2"), ["0 3 a,b", "0 7 z"])
        said(desk, "let 0", "let 1", *come_rows(1, 3))
        self.assertEqual(said(desk, "card 3", "card 0"), ["1 5 -", "0 3 a,b"])

    def test_a_card_by_the_sight(self):
        # Without its own rule the first card would leave as soon as its force is below 1.
        desk = Desk(text_of(["a 0 3 t / instead leave self do none", "b 0 5 - / hold less 4 mark t"],
                            ["s 0 2 c / hold steal mark t / hold gain d all"]))
        said(desk, *come_rows(0, 0), *come_rows(0, 1))
        self.assertEqual(said(desk, "card 0", "card 1"), ["0 -1 t", "0 5 -"])
        said(desk, "let 0", "let 1", *come_rows(1, 2))
        self.assertEqual(said(desk, "card 0", "card 1", "card 2"), ["1 -1 d,t", "0 5 d", "1 2 c,d"])

    def test_a_card_that_is_mute(self):
        desk = Desk(text_of(["m 0 5 - / hold mute all", "n 0 4 k / hold more 3 all"], []))
        said(desk, *come_rows(0, 1))
        self.assertEqual(desk.say("card 1"), "0 7 k")
        said(desk, *come_rows(0, 0))
        self.assertEqual(said(desk, "card 0", "card 1"), ["0 5 - mute", "0 4 k mute"])

    def test_ring(self):
        for players in (2, 3, 4):
            desk = Desk(text_of([LOOP], *[[]] * (players - 1)))
            self.assertEqual(desk.say("ring"), "none")
            said(desk, *come_rows(0, 0, players))
            self.assertEqual(desk.say("ring"), f"{players} {players}")
            said(desk, *[f"let {player}" for player in range(players)])
            self.assertEqual(desk.say("ring"), f"0 {players}")
            self.assertEqual(desk.say("back 1"), "ok")

    def test_points_and_scores(self):
        for players in (2, 3, 4):
            desk = Desk(text_of(*[[]] * players))
            self.assertEqual(said(desk, "points", "scores"), [" ".join(["20"] * players), " ".join(["0"] * players)])
        desk = Desk(text_of([BLOW], [], ["d 0 5 - / when come self do each score 30 not mine"]))
        said(desk, "let 0", "let 1", "let 2", "let 1", "let 2", "let 0", *come_rows(2, 1, 3), "let 2", "let 0", "let 1")
        self.assertEqual(said(desk, "points", "scores"), ["20 20 20", "30 30 0"])
        said(desk, "let 2", "let 0", "let 1", *come_rows(0, 0, 3), "let 0", "let 1", "let 2")
        self.assertEqual(said(desk, "points", "scores", "over"), ["20 -5 -5", "30 30 0", "won 0"])

    def test_over(self):
        desk = Desk(text_of([BLOW], []))
        self.assertEqual(desk.say("over"), "no")
        said(desk, *come_rows(0, 0), "let 0")
        self.assertEqual(said(desk, "over", "let 1", "over"), ["no", "ok", "won 0"])
        self.assertEqual(said(desk, "back 1", "over"), ["ok", "no"])

    def test_won_by_another_one(self):
        for winner in range(4):
            blow = "b 0 5 - / when come self do each lose 20 not mine"
            decks = [[], [], [], []]
            decks[winner] = [blow]
            desk = Desk(text_of(*decks))
            for turn in range(winner):
                said(desk, *[f"let {(turn + k) % 4}" for k in range(4)])
            said(desk, *come_rows(winner, 0, 4), *[f"let {(winner + k) % 4}" for k in range(4)])
            self.assertEqual(desk.say("over"), f"won {winner}")

    def test_over_with_nobody_left(self):
        desk = Desk(text_of(["b 0 5 - / when come self do each lose 20 all"], []))
        said(desk, *come_rows(0, 0), "let 0", "let 1")
        self.assertEqual(said(desk, "over", "points"), ["none", "0 0"])

    def test_over_by_a_full_pile(self):
        desk = Desk(text_of(["g 0 9 - / when come self do each score 1 all / when score all do each score 1 all"], []))
        said(desk, *come_rows(0, 0))
        rounds = 0
        while desk.say("over") == "no":
            said(desk, "let 0", "let 1")
            rounds += 1
        self.assertEqual((desk.say("over"), rounds, desk.say("ring")), ("full", 40, "none"))

    def test_text(self):
        text = text_of([LOOP, PLAIN], [USED])
        desk = Desk(text)
        self.assertEqual(desk.say("text"), text)
        said(desk, "let 0 3 -4", "let 1")
        self.assertEqual(desk.say("text"), text + "\nlet 0 3 -4\nlet 1")
        self.assertEqual(Desk(desk.say("text")).say("text"), desk.say("text"))

    def test_it_goes_on_from_the_deeds_of_its_text(self):
        desk = Desk(text_of([LOOP], []) + "\nplay 0 0\nlet 0")
        self.assertEqual(said(desk, "may 1", "let 1", "card 0", "back 3", "may 0"),
                         ["let", "ok", "0 9 -", "ok", "play 0; let"])

    def test_questions_change_nothing(self):
        desk = Desk(text_of([LOOP], [PLAIN]))
        said(desk, *come_rows(0, 0))
        rows = ("may 0", "may 1", "card 0", "ring", "points", "scores", "over", "text")
        first = said(desk, *rows)
        self.assertEqual(said(desk, *reversed(rows)), first[::-1])
        self.assertEqual(said(desk, *rows), first)

    def test_two_desks_are_apart(self):
        text = text_of([LOOP], [PLAIN])
        one, other = Desk(text), Desk(text)
        said(one, *come_rows(0, 0))
        self.assertEqual(said(other, "text", "may 0"), [text, "play 0; let"])


class Refused(unittest.TestCase):
    def desk(self, players=2):
        """A card lies, one waits, one is in a hand; two lettings done again would lead back to the same stand."""
        text = text_of([LOOP, PLAIN], [PLAIN], *[[]] * (players - 2))
        lets = [f"let {player}" for player in range(players)]
        return Desk("\n".join([text] + come_rows(0, 0, players) + lets + lets))

    def refused(self, desk, row, refusal):
        ahead = (whole(desk.fight), desk.say("text"))
        with self.assertRaises(FightError, msg=repr(row)) as taken:
            desk.say(row)
        self.assertEqual([one for one in REFUSALS if isinstance(taken.exception, one)], [refusal], repr(row))
        self.assertEqual((whole(desk.fight), desk.say("text")), ahead)
        return taken.exception

    def test_a_desk_of_a_text_that_is_none(self):
        text = text_of([LOOP], [])
        for wrong in ("", "deeds", "player\ndeeds", text + "\n", text + "\nlet 1", text + "\nback 0", text + "\nring",
                      text + "\nagain 1 1", "\n" + text, text.replace("player", "players"), None, 7, [text],
                      text.encode(), read_fight(text), text.replace("0 9", "0 09"), "player\n" * 5 + "deeds"):
            with self.assertRaises(NoFight):
                Desk(wrong)

    def test_what_is_no_text(self):
        desk = self.desk()
        for row in (None, 0, 7, True, [], ["ring"], ("ring",), {}, b"ring", Fight([[], []]), 1.5):
            self.refused(desk, row, NoRow)

    def test_no_row_at_all(self):
        desk = self.desk()
        for row in ("", " ", "\n", "ok", "no", "none", "Ring", "RING", "rin", "rings", "point", "score", "player", "0",
                    "deeds", PLAIN, "mays 0", "stand", "log", "many", "told 0", "help", "ring;", "let0", "0 let", "-",
                    "- 0"):
            self.refused(desk, row, NoRow)

    def test_words_too_few_and_too_many(self):
        desk = self.desk()
        for row in ("play", "play 0", "play 0 1 0", "use", "use 0", "use 0 0", "use 0 0 0 0", "let", "again", "again 2",
                    "again 2 1 1", "back", "back 1 1", "may", "may 0 0", "card", "card 0 0", "ring 0", "points 0",
                    "scores 0", "over 0", "text 0", "ring ring", "over no"):
            self.refused(desk, row, NoRow)

    def test_blanks_and_line_ends(self):
        desk = self.desk()
        for row in ("play 0 1", "use 0 0 0", "let 0", "let 0 1", "again 2 1", "back 1", "may 0", "card 0", "ring",
                    "points", "scores", "over", "text"):
            wrong = [row + " ", " " + row, row + "\n", "\n" + row, row + "\t", row + "\r", row + "\nlet 0"]
            if " " in row:
                wrong += [row.replace(" ", "  ", 1), row.replace(" ", "\t", 1), row.replace(" ", "\n", 1), row[:-1]]
            for one in wrong:
                self.refused(desk, one, NoRow)

    def test_how_numbers_are_written(self):
        desk = self.desk()
        for form, number in (("play {} 1", 0), ("play 0 {}", 1), ("use {} 0 0", 0), ("use 0 {} 0", 0), ("card {}", 0),
                             ("use 0 0 {}", 0), ("let {}", 0), ("let {} 1", 0), ("again {} 1", 2), ("again 2 {}", 1),
                             ("back {}", 1), ("may {}", 0)):
            for word in (f"0{number}", f"+{number}", f"-{number}", "-0", "-1", "--1", "00", "1" * 61, "9" * 61,
                         "1" + "0" * 60, "0" * 60 + str(number), f"{number}.", f"{number}.0", f"{number}_0", "", "a",
                         "None", "1e1", "0x1", chr(0x660 + number), chr(0xff10 + number), "\u00b2", f"{number}\n",
                         "+", "-"):
                self.refused(desk, form.replace("{}", word), NoRow)

    def test_how_choices_are_written(self):
        desk = self.desk()
        for word in ("-0", "00", "01", "-01", "+1", "-", "--1", "1-", "1" * 61, "-" + "1" * 61, "1_0", "1.0", "x", "",
                     "\u0661"):
            self.refused(desk, "let 0 " + word, NoRow)
            self.refused(desk, "let 0 1 " + word, NoRow)
        for word in ("0", "-1", "1" * 60, "-" + "1" * 60):
            self.assertEqual(said(desk, "let 0 " + word, "back 1"), ["ok", "ok"])

    def test_a_player_who_is_not_there(self):
        for players in (2, 3, 4):
            desk = self.desk(players)
            for player in range(players, 12):
                for row in ("play {} 1", "use {} 0 0", "let {}", "let {} 1 -1", "may {}"):
                    self.refused(desk, row.replace("{}", str(player)), NoRow)
            for row in ("play {} 1", "use {} 0 0", "let {}", "may {}"):
                self.refused(desk, row.replace("{}", SIXTY), NoRow)
            for player in range(players):
                desk.say(f"may {player}")

    def test_a_player_who_is_not_there_ahead_of_all_else(self):
        desk = Desk(text_of([BLOW], []))
        said(desk, *come_rows(0, 0), "let 0", "let 1")
        self.assertEqual(desk.say("over"), "won 0")
        for row in ("let 2", "play 3 0", "use 2 0 0", "let 9", "may 2"):
            self.refused(desk, row, NoRow)
        self.refused(desk, "let 1", NotNow)

    def test_cards_that_do_not_lie(self):
        desk = self.desk()
        desk.say("card 0")
        # In a hand of either player, and none of the fight's.
        for number in ("1", "2", "3", "15", "16", "99", "1000", SIXTY, "1" + "0" * 59):
            self.refused(desk, "card " + number, NoCard)
        self.refused(desk, "card 1" + "0" * 60, NoRow)

    def test_a_card_that_waits_or_is_in_the_heap_or_in_a_deck(self):
        desk = Desk(text_of([PLAIN, "z 0 0 -", PLAIN, PLAIN], []))
        said(desk, *come_rows(0, 1), "play 0 0")
        self.assertEqual((of_stand(desk.fight, "heap"), of_stand(desk.fight, "decks")), ((1,), ((3,), ())))
        for number in (0, 1, 2, 3):
            self.refused(desk, f"card {number}", NoCard)
        said(desk, "let 0", "let 1")
        self.assertEqual(desk.say("card 0"), "0 5 -")

    def test_deeds_that_are_refused(self):
        desk = self.desk()
        for row, why, card in (("let 1", "word", None), ("play 1 2", "word", 2), ("play 0 1", "turn", 1),
                               ("use 1 0 0", "word", 0), ("use 0 1 0", "card", 1), ("use 0 0 0", "rule", 0),
                               ("use 0 " + SIXTY + " 0", "card", int(SIXTY)), ("use 0 0 " + SIXTY, "rule", 0)):
            refusal = self.refused(desk, row, NotNow)
            self.assertEqual((refusal.why, refusal.card), (why, card))
        desk = Desk(text_of([PLAIN, "d 6 1 -"], [PLAIN]))
        for row, why, card in (("play 0 2", "hand", 2), ("play 0 " + SIXTY, "hand", int(SIXTY)),
                               ("play 0 1", "coins", 1)):
            refusal = self.refused(desk, row, NotNow)
            self.assertEqual((refusal.why, refusal.card), (why, card))

    def test_deeds_of_a_fight_that_is_over(self):
        desk = Desk(text_of([BLOW], []))
        said(desk, *come_rows(0, 0), "let 0", "let 1")
        for row, card in (("play 0 0", 0), ("use 1 0 0", 0), ("let 0", None), ("let 1 4", None)):
            refusal = self.refused(desk, row, NotNow)
            self.assertEqual((refusal.why, refusal.card), ("over", card))

    def test_repeats_and_takings_back_that_are_refused(self):
        desk = self.desk()
        for row in ("again 0 1", "again 1 1", "again 3 0", "again 8 1", "again " + SIXTY + " 1", "back 8",
                    "back " + SIXTY):
            self.refused(desk, row, NotSame)
        self.assertEqual(said(desk, "again 2 1", "back 8"), ["ok", "ok"])
        self.refused(desk, "back 1", NotSame)
        self.refused(desk, "again 1 1", NotSame)


class ByChance(unittest.TestCase):
    def rows(self, rng, players):
        number = rng.choice((0, 1, 2, 3, 5, 9, 17))
        choices = "".join(f" {choice}" for choice in random_choices(rng))
        player = rng.randrange(players)
        return (f"play {player} {number}", f"use {player} {number} {rng.randrange(3)}", f"let {player}{choices}",
                f"again {rng.randrange(5)} {rng.randrange(9)}", f"back {rng.choice((0, 0, 1, 2))}")

    def told(self, fight, row):
        """What is answered, or the refusal's own class, by a fight beside the desk."""
        word, *numbers = row.split(" ")
        numbers = [int(one) for one in numbers]
        if word == "let":
            numbers = [numbers[0], numbers[1:]]
        try:
            getattr(fight, word)(*numbers)
        except FightError as refusal:
            return type(refusal)
        return "ok"

    def answer(self, desk, row):
        try:
            return desk.say(row)
        except FightError as refusal:
            return type(refusal)

    def test_a_desk_and_a_fight_beside_it(self):
        answers = {}
        for rng in seeded(30, 8000):
            players = rng.randrange(2, 5)
            decks = random_decks(rng, players)
            desk, fight = Desk(text_of(*decks)), Fight(decks)
            for _ in range(60):
                word = of_stand(fight, "word")
                row = rng.choice(self.rows(rng, players))
                if rng.random() < 0.8:
                    deeds = fight.may_do(word) or [("let",)]
                    deed = rng.choice(deeds)
                    row = " ".join([deed[0], str(word)] + [str(one) for one in deed[1:]])
                answer = self.answer(desk, row)
                self.assertEqual(answer, self.told(fight, row), row)
                answers[answer] = answers.get(answer, 0) + 1
                self.assertEqual(whole(desk.fight), whole(fight))
            self.assertEqual(desk.say("text"), written(fight))
            self.assertEqual(desk.say("points"), " ".join(map(str, of_stand(fight, "points"))))
            self.assertEqual(desk.say("scores"), " ".join(map(str, of_stand(fight, "scores"))))
            self.assertEqual(desk.say("ring"), "none" if ring(fight) is None else "{} {}".format(*ring(fight)))
            for player in range(players):
                self.assertEqual([one for one in desk.say(f"may {player}").split("; ") if one],
                                 [" ".join(map(str, deed)) for deed in fight.may_do(player)])
            for number, keeper, marks, force, mute in fight.sight_now():
                self.assertEqual(desk.say(f"card {number}"),
                                 f"{keeper} {force} {','.join(marks) or '-'}{' mute' * mute}")
        self.assertEqual(set(answers), {"ok", NotNow, NotSame}, answers)


if __name__ == "__main__":
    unittest.main()
