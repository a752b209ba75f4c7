"""Whole fights written as texts and read again."""

import re
import unittest

from helper import all_let, come, do, of_stand, plain_cards, random_decks, random_deed, seeded, whole
from turnstack.cards import read_card
from turnstack.errors import FightError, NoCard, NoFight, NotNow, NotSame
from turnstack.fight import Fight
from turnstack.saves import read_fight, written

SIXTY = 10 ** 60 - 1
PLAIN = "c 0 5 -"
WOLF = "wolf 2 3 fast,grey / hold more 1 both mine mark grey / may 1 do one hurt 1 all"
RING = "r 0 9 - / when score mine do each score 3 mine / may 1 do each score 0 mine"
HOLD = "h 0 5 - / hold more 1 all / hold less 1 all"

# A fight of two whose deeds are of all sorts: the card comes, is used, and the ring is done again and again.
LINES = ["player", RING, PLAIN, "player", WOLF, "deeds", "play 0 0", "let 0", "let 1 7", "use 0 0 1", "let 0 -1 0",
         "let 1", "let 0", "let 1", "again 2 1000"]
TEXT = "\n".join(LINES)


def with_deeds(*lines):
    return "\n".join(LINES[:6] + list(lines))


def with_decks(*lines):
    return "\n".join(list(lines) + ["deeds"])


def deed_of(line):
    """The deed of a line that is one."""
    word, *numbers = line.split(" ")
    numbers = [int(number) for number in numbers]
    return (word, numbers[0], numbers[1:]) if word == "let" else (word, *numbers)


def told_of(fight):
    return whole(fight) + (fight.deeds(),)


class Written(unittest.TestCase):
    def test_empty_decks(self):
        for players in (2, 3, 4):
            self.assertEqual(written(Fight([[]] * players)), "player\n" * players + "deeds")

    def test_decks(self):
        fight = Fight([[WOLF, PLAIN], [], [PLAIN, RING, PLAIN, WOLF]])
        self.assertEqual(written(fight), "\n".join(
            ["player", WOLF, PLAIN, "player", "player", PLAIN, RING, PLAIN, WOLF, "deeds"]))

    def test_decks_as_they_were_at_the_begin(self):
        fight = Fight([[PLAIN, "b 0 5 m", "d 1 1 -", "e 2 2 -"], ["f 0 1 -"]])
        head = written(fight)
        come(fight, 1)
        all_let(fight)
        come(fight, 4)
        self.assertEqual(written(fight).split("\n")[:8], head.split("\n"))

    def test_each_sort_of_deed(self):
        fight = Fight([[RING, PLAIN], [WOLF]])
        fight.play(0, 0)
        fight.let(0)
        fight.let(1, [7])
        fight.use(0, 0, 1)
        fight.let(0, [-1, 0])
        fight.let(1, [])
        fight.let(0, None)
        fight.let(1)
        fight.again(2, 1000)
        self.assertEqual(written(fight), TEXT)

    def test_each_deed_stands_behind_the_last_one(self):
        fight, lines = read_fight(with_deeds()), LINES[:6]
        for line in LINES[6:]:
            self.assertEqual(written(fight), "\n".join(lines))
            lines.append(line)
            fight = read_fight("\n".join(lines))
        self.assertEqual(written(fight), TEXT)

    def test_players_numbers_and_places(self):
        two = "t 0 5 - / hold more 1 all / may 0 do each score 1 mine / may 0 do each score 2 mine"
        fight = Fight([[PLAIN] * 11, [], [two]])
        for _ in range(2):
            all_let(fight)
        come(fight, 11)
        fight.use(2, 11, 2)
        fight.use(2, 11, 1)
        lines = written(fight).split("\n")
        self.assertEqual(lines[lines.index("deeds") + 7:],
                         ["play 2 11", "let 2", "let 0", "let 1", "use 2 11 2", "use 2 11 1"])

    def test_choices_as_they_were_handed_in(self):
        fight = Fight([[], []])
        fight.let(0, [SIXTY, -SIXTY, 0, -1, 10, 7])
        fight.let(1, [5] * 20)
        self.assertEqual(written(fight), "\n".join(["player", "player", "deeds"] + [
            "let 0 " + "9" * 60 + " -" + "9" * 60 + " 0 -1 10 7", "let 1" + " 5" * 20]))

    def test_choices_that_the_asker_changes_later(self):
        fight, choices = Fight([[], []]), [3, 4]
        fight.let(0, choices)
        choices.append(5)
        choices[0] = 9
        self.assertEqual(written(fight).split("\n")[-1], "let 0 3 4")

    def test_again_of_many_figures(self):
        fight = read_fight("\n".join(LINES[:-1]))
        fight.again(2, SIXTY)
        self.assertEqual(written(fight), "\n".join(LINES[:-1] + ["again 2 " + "9" * 60]))
        fight.back(1)
        fight.again(2, 0)
        self.assertEqual(written(fight), "\n".join(LINES[:-1] + ["again 2 0"]))

    def test_deeds_that_were_taken_back(self):
        fight = read_fight(TEXT)
        for many in range(1, 10):
            fight.back(1)
            self.assertEqual(written(fight), "\n".join(LINES[:-many]))
        fight.let(0, [1])
        self.assertEqual(written(fight), with_deeds("let 0 1"))

    def test_deeds_that_were_refused(self):
        fight = read_fight(TEXT)
        for deed, refusal in ((("play", 0, 0), NotNow), (("use", 1, 0, 0), NotNow), (("let", 1), NotNow),
                              (("again", 1, 1), NotSame), (("back", 10), NotSame)):
            with self.assertRaises(refusal):
                do(fight, deed)
        self.assertEqual(written(fight), TEXT)

    def test_the_fight_stays_as_it_was(self):
        fight = read_fight("\n".join(LINES[:-1]))
        ahead = told_of(fight)
        self.assertEqual(written(fight), written(fight))
        self.assertEqual(told_of(fight), ahead)
        self.assertNotEqual(fight.log(), [])


class Read(unittest.TestCase):
    def test_stand_log_many_and_owners(self):
        fight = Fight([[RING, PLAIN], [WOLF]])
        come(fight, 0)
        fight.use(0, 0, 1)
        all_let(fight)
        all_let(fight)
        other = read_fight(written(fight))
        self.assertIsInstance(other, Fight)
        self.assertEqual(other.stand(), fight.stand())
        self.assertEqual(other.log(), [(("score", -1, 3), [], ("score", -1, 3))])
        self.assertEqual((other.log(), other.many(), other.owners()), (fight.log(), 8, [0, 0, 1]))
        self.assertEqual(plain_cards(other.cards()), plain_cards(fight.cards()))

    def test_the_log_is_that_of_the_last_deed(self):
        self.assertEqual(read_fight(TEXT).log(), [])
        self.assertEqual(read_fight("\n".join(LINES[:9])).log(), [(("come", 0, 0), [], ("come", 0, 0))])
        # A fight that was taken back to this deed has no log; read, it has the one to which the deeds lead.
        fight = read_fight("\n".join(LINES[:10]))
        fight.back(1)
        self.assertEqual(fight.log(), [])
        self.assertEqual(read_fight(written(fight)).log(), [(("come", 0, 0), [], ("come", 0, 0))])

    def test_the_same_text_again(self):
        for text in (TEXT, with_deeds(), with_deeds("let 0", "let 1"), with_decks("player", "player"),
                     with_decks("player", "player", "player", PLAIN, "player"), with_deeds("let 0 -5 0 " + "9" * 60)):
            self.assertEqual(written(read_fight(text)), text)

    def test_choices_are_taken_as_they_stand_there(self):
        text = "a 0 9 - / may 0 do one score 1 all"
        lines = ["player", text, "player", "player", "deeds", "play 0 0", "let 0", "let 1", "let 2", "use 0 0 0"]
        lines += ["let 0", "let 1"]
        for choices, scores in (("", (1, 0, 0)), (" 1", (0, 1, 0)), (" 2 1", (0, 0, 1)), (" -1", (0, 0, 1)),
                                (" -2", (0, 1, 0)), (" " + "9" * 60, (1, 0, 0)), (" 1" + "0" * 59, (0, 1, 0)),
                                (" -1" + "0" * 59, (0, 0, 1))):
            fight = read_fight("\n".join(lines + ["let 2" + choices]))
            self.assertEqual(of_stand(fight, "scores"), scores, choices)

    def test_back_to_each_stand(self):
        fight, stands = read_fight(with_deeds()), []
        for line in LINES[6:]:
            stands.append(fight.stand())
            do(fight, deed_of(line))
        self.assertEqual(fight.stand(), read_fight(TEXT).stand())
        for many, stand in enumerate(stands):
            other = read_fight(TEXT)
            other.back(len(stands) - many)
            self.assertEqual((other.stand(), other.many(), other.log()), (stand, many, []))
            for line in LINES[6 + many:]:
                do(other, deed_of(line))
            self.assertEqual((other.stand(), written(other)), (fight.stand(), TEXT))

    def test_it_goes_on_alike(self):
        fight, other = Fight([[RING, PLAIN], [WOLF]]), read_fight(with_deeds())
        for deed in (("play", 0, 0), ("let", 0), ("let", 1), ("use", 0, 0, 1), ("let", 0), ("let", 1), ("let", 0),
                     ("let", 1), ("again", 2, SIXTY), ("let", 0), ("back", 1)):
            do(fight, deed)
            do(other, deed)
            self.assertEqual(told_of(other), told_of(fight))
            self.assertEqual(told_of(read_fight(written(fight)))[2:], told_of(fight)[2:])

    def test_a_fight_that_is_over(self):
        fight = Fight([["a 0 5 - / when come self do each lose 20 not mine"], []])
        come(fight, 0)
        all_let(fight)
        self.assertEqual(told_of(read_fight(written(fight))), told_of(fight))
        with self.assertRaises(NoFight):
            read_fight(written(fight) + "\nlet 0")

    def test_deeds_taken_back_are_not_there(self):
        fight = read_fight(TEXT)
        fight.back(5)
        other = read_fight(written(fight))
        self.assertEqual((other.many(), other.stand()), (4, fight.stand()))
        with self.assertRaises(NotSame):
            other.back(5)

    def test_two_fights_read_are_apart(self):
        one, other = read_fight(TEXT), read_fight(TEXT)
        ahead = told_of(other)
        one.back(5)
        one.let(0)
        self.assertEqual(told_of(other), ahead)


class LetIn(unittest.TestCase):
    """What lies at the edge and is let in."""

    def test_decks(self):
        for text in (
            with_decks("player", "player"), with_decks("player", "player", "player", "player"),
            with_decks("player", "player", *[PLAIN] * 16), with_decks("player", *[PLAIN] * 8, "player", *[PLAIN] * 8),
            with_decks("player", HOLD, HOLD, "player", HOLD, HOLD),
            with_decks("player", "abcdefgh 999 0 a,ab,b", "player", "player"),
        ):
            self.assertEqual(written(read_fight(text)), text)

    def test_deeds(self):
        for lines in (
            ("let 0",), ("let 0 0",), ("let 0 -1",), ("let 0 10 100 -100",), ("let 0 " + "1" * 60,),
            ("let 0 -" + "1" * 60,), ("let 0" + " 0" * 300,), ("play 0 1", "let 0", "let 1 3"),
            ("let 0", "let 1", "let 1", "let 0", "let 0", "let 1", "let 1", "let 0", "let 0", "let 1"),
        ):
            self.assertEqual(written(read_fight(with_deeds(*lines))), with_deeds(*lines))

    def test_again(self):
        for many in ("0", "1", "10", "9" * 60, "1" + "0" * 59):
            text = "\n".join(LINES[:-1] + ["again 2 " + many])
            fight = read_fight(text)
            self.assertEqual((written(fight), of_stand(fight, "scores")), (text, (3 + 3 * int(many), 0)))


class Refused(unittest.TestCase):
    def refused(self, *texts):
        for text in texts:
            with self.assertRaises(NoFight, msg=repr(text)):
                read_fight(text)

    def test_what_is_no_text(self):
        self.refused(None, 0, 7, True, [], LINES, tuple(LINES), {}, TEXT.encode(), Fight([[], []]), 1.5, object())

    def test_the_text_itself_is_let_in(self):
        self.assertEqual(written(read_fight(TEXT)), TEXT)

    def test_no_fight_at_all(self):
        self.refused("", "\n", " ", "deeds", "player", "\ndeeds", "deeds\n", "player deeds", "a fight")

    def test_how_many_players(self):
        for many in (0, 1, 5, 6, 17):
            self.refused("player\n" * many + "deeds", "\n".join(["player", PLAIN] * many + ["deeds"]))

    def test_too_many_cards(self):
        self.refused(with_decks("player", *[PLAIN] * 17, "player"), with_decks("player", "player", *[PLAIN] * 17),
                     with_decks("player", *[PLAIN] * 8, "player", *[PLAIN] * 9))

    def test_too_many_hold_rules(self):
        one = "h 0 5 - / hold more 1 all"
        self.refused(with_decks("player", HOLD, HOLD, "player", HOLD, HOLD, one),
                     with_decks("player", *[one] * 9, "player"))

    def test_a_card_s_text_that_is_none(self):
        for text in ("", " ", "c 0 5", "c 0 5 - ", " c 0 5 -", "c  0 5 -", "C 0 5 -", "c 00 5 -", "c 0 5 b,a", "-", "0",
                     "c 0 5 - /", "c 0 5 - / hold", "c 0 1000 -", "players", "Player", "player ", " player", "deed",
                     "deeds ", " deeds", "Deeds", "let 0", "play 0 0", "c 0 5 -\r", "c 0 5 -\t", "c 0 -1 -"):
            self.refused(with_decks("player", text, "player"), with_decks("player", "player", PLAIN, text),
                         with_decks("player", text, PLAIN, "player"))

    def test_a_line_too_many_ahead_of_the_first_player(self):
        for line in ("", " ", PLAIN, "fight", "let 0", "deeds"):
            self.refused(line + "\n" + TEXT, line + "\n" + with_decks("player", "player"))

    def test_empty_lines(self):
        for place in range(len(LINES) + 1):
            self.refused("\n".join(LINES[:place] + [""] + LINES[place:]))
        self.refused(TEXT + "\n", with_deeds() + "\n", TEXT + "\n\n", "\n" + TEXT)

    def test_blanks_at_the_ends_of_lines(self):
        for place, line in enumerate(LINES):
            for other in (line + " ", " " + line, line + "\t", line + "\r"):
                self.refused("\n".join(LINES[:place] + [other] + LINES[place + 1:]))

    def test_other_line_ends(self):
        for end in ("\r\n", "\r", "\x0b", "\x0c", "\x1c", "\x85", "\u2028", " "):
            self.refused(TEXT.replace("\n", end), with_decks("player", "player").replace("\n", end))
            self.refused(end.join([with_deeds("let 0"), "let 1"]))

    def test_no_line_deeds(self):
        self.refused("\n".join(LINES[:5]), "\n".join(LINES[:5] + LINES[6:]), "player\nplayer")
        self.refused(TEXT.replace("deeds", "deed"), TEXT.replace("deeds", "DEEDS"))

    def test_a_second_line_deeds(self):
        self.refused(with_deeds("deeds"), TEXT + "\ndeeds", with_decks("player", "player", "deeds"))

    def test_lines_of_decks_behind_the_deeds(self):
        self.refused(with_deeds("player"), with_deeds(PLAIN), TEXT + "\nplayer")

    def test_a_word_that_is_no_deed_s(self):
        self.refused(*[with_deeds(line) for line in (
            "pass 0", "Let 0", "LET 0", "le 0", "lets 0", "back 0", "back 1", "may 0", "card 0", "ring", "points", "0",
            "scores", "over", "text", "0 let", "-", "come 0", "draw 0 1", "deed let 0", "let0", "play0 0",
        )])

    def test_words_too_few_and_too_many(self):
        for lines, line in (
            ((), "let"), ((), "play"), ((), "play 0"), ((), "play 0 0 0"), ((), "play 0 0 -"),
            (LINES[6:9], "use"), (LINES[6:9], "use 0"), (LINES[6:9], "use 0 0"), (LINES[6:9], "use 0 0 1 0"),
            (LINES[6:14], "again"), (LINES[6:14], "again 2"), (LINES[6:14], "again 2 1 1"),
        ):
            self.refused(with_deeds(*lines, line))

    def test_two_blanks(self):
        for place in range(6, len(LINES)):
            line = LINES[place]
            for at, sign in enumerate(line):
                if sign == " ":
                    other = line[:at] + " " + line[at:]
                    self.refused("\n".join(LINES[:place] + [other] + LINES[place + 1:]))
        self.refused(with_deeds("let 0 "), with_deeds("let 0  1"), with_deeds("let 0 1 "), with_deeds("let  0"))

    def test_how_numbers_are_written(self):
        """Each number of each sort of deed, which stands there as {}."""
        for lines, line, number in (
            ((), "play {} 0", 0), ((), "play 0 {}", 0), ((), "let {}", 0), ((), "let {} 1", 0),
            (LINES[6:9], "use {} 0 1", 0), (LINES[6:9], "use 0 {} 1", 0), (LINES[6:9], "use 0 0 {}", 1),
            (LINES[6:14], "again {} 3", 2), (LINES[6:14], "again 2 {}", 3),
        ):
            read_fight(with_deeds(*lines, line.replace("{}", str(number))))
            for word in (f"0{number}", f"00{number}", f"+{number}", f"-{number}", "-0", "+", "-", "--1", "-1", "0x0",
                         f"{number}.", f"{number}.0", f"{number}e0", f"{number}_", f"_{number}", f"{number}_0",
                         f"{number},", f"({number})", chr(0x660 + number), chr(0xff10 + number), "\u00b2", "", "a",
                         "None", "True", "0" * 60 + str(number), "1" * 61, "9" * 61, "1" + "0" * 60, f"{number}\t",
                         f"\t{number}"):
                self.refused(with_deeds(*lines, line.replace("{}", word)))

    def test_how_choices_are_written(self):
        for word in ("00", "01", "007", "-0", "-00", "-01", "+0", "+1", "-", "--1", "+-1", "-+1", "1-", "1-1", "1" * 61,
                     "-" + "1" * 61, "0" * 61, "1" + "0" * 60, "1.", "1.0", "1e1", "1_0", "1,0", "1a", "a", "x", "0x1",
                     "\u0661", "-\u0661", "\uff11", "\u00b2", "\u22121", "1\t", "\t1", "- 1", "", " ", "None"):
            self.refused(with_deeds("let 0 " + word), with_deeds("let 0 1 " + word), with_deeds("let 0 " + word + " 1"))

    def test_signs_amid_the_figures(self):
        for many in (1, 30, 58):
            for sign in "+-._,ax/":
                word = "1" * many + sign + "1" * (59 - many)
                self.refused(with_deeds("let 0 " + word), "\n".join(LINES[:-1] + ["again 2 " + word]))

    def test_a_player_who_is_not_there(self):
        for player in ("2", "3", "4", "10", "9" * 60):
            self.refused(with_deeds("let " + player), with_deeds(f"play {player} 0"),
                         with_deeds(*LINES[6:9], f"use {player} 0 1"))

    def test_a_deed_that_is_refused(self):
        self.refused(*[with_deeds(*lines) for lines in (
            ("let 1",), ("play 1 2",), ("play 0 2",), ("play 0 3",), ("play 0 " + "9" * 60,), ("play 0 0", "play 0 1"),
            ("play 0 0", "use 0 0 1"), ("use 0 0 1",), LINES[6:9] + ["use 0 0 0"], LINES[6:9] + ["use 0 0 3"],
            LINES[6:9] + ["use 0 0 " + "9" * 60], LINES[6:9] + ["use 0 " + "9" * 60 + " 1"],
            LINES[6:9] + ["use 0 0 1"] * 6, ("again 0 0",), ("again 0 1",), ("again 1 1",), LINES[6:14] + ["again 1 1"],
            LINES[6:14] + ["again 0 1"], LINES[6:14] + ["again 3 1"], LINES[6:14] + ["again 8 1"],
            LINES[6:14] + ["again 9 1"], LINES[6:14] + ["again " + "9" * 60 + " 1"], LINES[6:] + ["again 2 1"],
            LINES[6:] + ["again 3 1"], LINES[6:] + ["again 1 0"],
        )])

    def test_a_deed_that_is_refused_amid_others(self):
        self.refused(with_deeds("let 0", "let 0", "let 1"), with_deeds("let 0", "play 1 0", "let 1"))

    def test_it_is_no_other_refusal(self):
        for text in (with_decks("player", "none", "player"), with_deeds("let 1"), with_deeds("again 1 1"), "", None):
            with self.assertRaises(FightError) as taken:
                read_fight(text)
            self.assertIsInstance(taken.exception, NoFight)
            self.assertNotIsInstance(taken.exception, (NoCard, NotNow, NotSame))


NUMBER = "(0|[1-9][0-9]{0,59})"
CHOICE = "(0|-?[1-9][0-9]{0,59})"
DEED = re.compile("|".join((f"play {NUMBER} {NUMBER}", f"use {NUMBER} {NUMBER} {NUMBER}", f"let {NUMBER}( {CHOICE})*",
                            f"again {NUMBER} {NUMBER}")))


def by_the_words(text):
    """Whether a text tells a fight, asked a second time: its form by one pattern, its deeds of a new fight."""
    whole_text = re.fullmatch(r"((?:player\n(?:(?!player$|deeds$).*\n)*)*)deeds((?:\n.*)*)", text, re.MULTILINE)
    if whole_text is None:
        return False
    decks = [part.split("\n")[:-1] for part in re.split(r"^player\n", whole_text[1], flags=re.MULTILINE)[1:]]
    lines = whole_text[2].split("\n")[1:]
    if not all(DEED.fullmatch(line) for line in lines):
        return False
    try:
        fight = Fight(decks)
        for line in lines:
            do(fight, deed_of(line))
    except FightError:
        return False
    return True


class ByChance(unittest.TestCase):
    def test_written_and_read(self):
        for rng in seeded(40, 5000):
            decks = random_decks(rng, rng.randrange(2, 5))
            fight, stands = Fight(decks), []
            for _ in range(rng.randrange(60)):
                deed = random_deed(rng, fight)
                if deed is not None:
                    stands.append(fight.stand())
                    do(fight, deed)
                if rng.random() < 0.05 and stands:
                    fight.back(1)
                    stands.pop()
            text = written(fight)
            other = read_fight(text)
            self.assertEqual((other.stand(), other.many()), (fight.stand(), len(stands)))
            self.assertEqual(other.owners(), fight.owners())
            self.assertEqual((written(other), plain_cards(other.cards())), (text, plain_cards(fight.cards())))
            self.assertTrue(by_the_words(text))
            for _ in range(10):
                deed = random_deed(rng, fight)
                if deed is not None:
                    do(fight, deed)
                    do(other, deed)
                    self.assertEqual(whole(other), whole(fight))
            other = read_fight(text)
            for stand in reversed(stands):
                other.back(1)
                self.assertEqual(other.stand(), stand)

    def test_texts_with_a_sign_changed(self):
        answers = {True: 0, False: 0}
        for rng in seeded(40, 6000):
            lines = list(LINES)
            if rng.random() < 0.5:
                lines[rng.randrange(len(lines))] = rng.choice(lines)
            for _ in range(40):
                text = "\n".join(lines)
                place = rng.randrange(len(text) + 1)
                sign = rng.choice("\n -+0123456789 playerdeedsletagainuse/,abc\n")
                text = text[:place] + rng.choice(("", sign)) + text[place + rng.randrange(2):]
                want = by_the_words(text)
                answers[want] += 1
                if want:
                    self.assertEqual(written(read_fight(text)), text)
                else:
                    with self.assertRaises(NoFight, msg=repr(text)):
                        read_fight(text)
        self.assertGreater(min(answers.values()), 100, answers)

    def test_cards_are_read_as_read_card_reads_them(self):
        for rng in seeded(30, 6500):
            for text in [text for deck in random_decks(rng, 2) for text in deck]:
                self.assertEqual(read_fight(with_decks("player", text, "player")).cards(), [read_card(text)])


if __name__ == "__main__":
    unittest.main()
