import unittest

from turnstack.cards import copied, read_card, show_card
from turnstack.errors import NoCard

WOLF = ("wolf 2 3 fast,grey / hold more 1 both mine mark grey / when leave self do each lose 2 not mine"
        " / may 1 do one hurt 1 not self")
KINDS = ("come", "leave", "hurt", "gain", "lack", "lose", "score", "draw")
NUMBERED = ("hurt", "lose", "score", "draw")
NAMED = ("gain", "lack")
OF_PLAYERS = ("lose", "score", "draw")
NINE = "both any mark a mark b any force 1 both self mine"


def plain(value):
    """A rule with each whom in it as ("whom", its text)."""
    if isinstance(value, tuple):
        return tuple(plain(part) for part in value)
    return ("whom", value.told()) if hasattr(value, "told") else value


def rule_of(text):
    """The one rule of a card, plain; the card told again is looked at as well."""
    whole = "c 0 0 - / " + text
    card = read_card(whole)
    if show_card(card) != whole:
        raise AssertionError(f"{whole!r} is told again as {show_card(card)!r}")
    return plain(card.rules[0]) if len(card.rules) == 1 else None


def all_deeds():
    """Pairs of a deed's text and its tuple."""
    for each in ("each", "one"):
        for kind in KINDS[1:]:
            if kind == "leave":
                amounts = [("", 0)]
            elif kind in NAMED:
                amounts = [(" grey", "grey"), (" all", "all")]
            else:
                amounts = [(" 0", 0), (" 7", 7), (" 999", 999)]
            for words, amount in amounts:
                yield f"{each} {kind}{words} not self", (each, kind, amount, ("whom", "not self"))


class Same(unittest.TestCase):
    def test_cards_are_the_same_where_their_texts_are(self):
        self.assertEqual(read_card(WOLF), read_card(WOLF))
        for other in (WOLF.replace("wolf", "fox"), WOLF.replace("2 3", "2 4"), WOLF.replace("not self", "all")):
            self.assertNotEqual(read_card(WOLF), read_card(other))

    def test_a_card_is_not_its_text(self):
        self.assertNotEqual(read_card(WOLF), WOLF)
        self.assertNotEqual(read_card(WOLF), None)

    def test_a_copy_is_apart(self):
        card = read_card(WOLF)
        other = copied(card)
        self.assertEqual((show_card(other), other), (WOLF, card))
        other.name, other.cost, other.force, other.marks, other.rules = "x", 9, 9, (), ()
        self.assertEqual(show_card(card), WOLF)


class CardTest(unittest.TestCase):
    def refused(self, text):
        with self.assertRaises(NoCard, msg=repr(text)[:200]):
            read_card(text)

    def refused_rule(self, text):
        self.refused("c 0 0 - / " + text)


class Heads(CardTest):
    def test_the_values(self):
        card = read_card("wolf 2 30 fast,grey")
        values = (card.name, card.cost, card.force, card.marks, card.rules)
        self.assertEqual(values, ("wolf", 2, 30, ("fast", "grey"), ()))
        self.assertEqual([type(value) for value in values], [str, int, int, tuple, tuple])

    def test_no_marks_and_the_edges_of_numbers(self):
        card = read_card("abcdefgh 0 999 -")
        self.assertEqual((card.name, card.cost, card.force, card.marks), ("abcdefgh", 0, 999, ()))
        self.assertIsInstance(card.marks, tuple)
        card = read_card("a 999 0 a,b,c,d,e,f,g,h,i,j,zzzzzzzz")
        self.assertEqual((card.cost, card.force, card.marks), (999, 0, tuple("abcdefghij") + ("zzzzzzzz",)))

    def test_marks_rise_as_words(self):
        self.assertEqual(read_card("a 1 1 a,aa,ab,b").marks, ("a", "aa", "ab", "b"))
        for marks in ("b,a", "a,a", "a,b,a", "aa,a", "a,b,b", "a,c,b"):
            self.refused("a 1 1 " + marks)

    def test_wrong_marks(self):
        for marks in ("", ",", "a,", ",a", "a,,b", "-,a", "a,-", "--", "A", "a,B", "1", "a,1", "abcdefghi", "a;b",
                      "a, b", "a b", "a\n", "a,b\n"):
            self.refused("a 1 1 " + marks)

    def test_wrong_names_and_numbers(self):
        for text in ("", "a", "a 1", "a 1 1", "a 1 1 - -", "a 1 1 1", "A 1 1 -", "1 1 1 -", "abcdefghi 1 1 -",
                     "a- 1 1 -", "a 01 1 -", "a 1 01 -", "a 1000 1 -", "a 1 1000 -", "a -1 1 -", "a 1 -1 -",
                     "a x 1 -", "a 1 x -", "a 1 1 - a", "a b 1 1 -", "1 1 -", "\u00e4 1 1 -", "a \u0663 1 -",
                     "a 1 \u00b2 -"):
            self.refused(text)

    def test_what_is_no_text(self):
        for thing in (None, 0, 3, True, ["a", 1, 1, "-"], ("a 1 1 -",), {}, b"a 1 1 -", 1.0, read_card("a 1 1 -")):
            self.refused(thing)

    def test_words_of_the_language_are_names_too(self):
        for name in ("hold", "do", "all", "each"):
            self.assertEqual(read_card(name + " 1 1 " + name).marks, (name,))


class Holds(CardTest):
    def test_every_change(self):
        w = ("whom", "mine")
        for text, word, value in (("mute", "mute", None), ("steal", "steal", None), ("gain grey", "gain", "grey"),
                                  ("lack grey", "lack", "grey"), ("be 3", "be", 3), ("more 0", "more", 0),
                                  ("less 999", "less", 999), ("per not self", "per", ("whom", "not self")),
                                  ("gain mine", "gain", "mine"), ("lack all", "lack", "all")):
            self.assertEqual(rule_of(f"hold {text} mine"), ("hold", word, value, w))

    def test_first_p_then_w(self):
        rule = read_card("c 0 0 - / hold per mark a mark b").rules[0]
        self.assertEqual((rule[2].told(), rule[3].told()), ("mark a", "mark b"))

    def test_values_of_other_sorts(self):
        for text in ("mute 1 mine", "mute a mine", "steal 1 mine", "steal all mine", "gain 1 mine", "gain Grey mine",
                     "gain a b mine", "lack 2 mine", "lack - mine", "be a mine", "be 01 mine", "be 1 2 mine",
                     "more a mine", "more -1 mine", "less 1000 mine", "less a mine", "per 1 mine", "per a mine",
                     "per all all mine", "none mine", "here mine", "come mine", "hurt 1 mine", "Mute mine",
                     "as lose mine"):
            self.refused_rule("hold " + text)

    def test_words_missing(self):
        for text in ("", " mute", " steal", " gain a", " gain all", " lack a", " be 1", " more 1", " less 1", " per",
                     " per all", " be all", " all", " mine"):
            self.refused_rule("hold" + text)


class Whens(CardTest):
    def test_every_kind(self):
        for kind in KINDS:
            self.assertEqual(rule_of(f"when {kind} both mine mark do do one hurt 3 all"),
                             ("when", kind, ("whom", "both mine mark do"), ("one", "hurt", 3, ("whom", "all"))))

    def test_every_deed(self):
        for text, deed in all_deeds():
            self.assertEqual(rule_of("when come all do " + text), ("when", "come", ("whom", "all"), deed))

    def test_wrong(self):
        for text in ("come do each leave all", "come all each leave all", "come all do", "all do each leave all",
                     "come all do each leave", "come all do do each leave all", "arrive all do each leave all",
                     "come all all do each leave all", "come 1 all do each leave all", "hurt 1 all do each leave all",
                     "gain a all do each leave all", "come all Do each leave all", "come all do none",
                     "mute all do none", ""):
            self.refused_rule("when " + text)


class Insteads(CardTest):
    def test_every_turn_of_every_kind(self):
        turns = [("none", "none", None, KINDS[1:]), ("here", "here", None, ("leave", "hurt", "gain", "lack"))]
        turns += [(f"{word} {n}", word, n, NUMBERED) for word in ("less", "more") for n in (0, 2, 999)]
        turns += [(f"as {kind}", "as", kind, OF_PLAYERS) for kind in OF_PLAYERS]
        for text, word, value, kinds in turns:
            for kind in KINDS:
                whole = f"instead {kind} not self do {text}"
                if kind in kinds:
                    self.assertEqual(rule_of(whole), ("instead", kind, ("whom", "not self"), word, value))
                else:
                    self.refused_rule(whole)

    def test_as_a_kind_of_cards(self):
        for kind in KINDS:
            for other in ("come", "leave", "hurt", "gain", "lack", "none", "1", "a"):
                self.refused_rule(f"instead {kind} all do as {other}")

    def test_wrong(self):
        for kind in KINDS:
            for turn in ("", " ", " less", " more", " as", " less a", " more 01", " less -1", " more 1000", " none 1",
                         " here 1", " none all", " as lose lose", " less 1 all", " each leave all",
                         " one hurt 1 all", " mute"):
                self.refused_rule(f"instead {kind} all do{turn}")
        for text in ("hurt do none", "hurt all none", "hurt all", "all do none", "hurt 1 all do none",
                     "gain a all do none", "hurt all all do none", "hurt all do do none", "strike all do none"):
            self.refused_rule("instead " + text)


class Mays(CardTest):
    def test_every_deed_and_cost(self):
        for text, deed in all_deeds():
            for cost in (0, 1, 999):
                self.assertEqual(rule_of(f"may {cost} do {text}"), ("may", cost, deed))

    def test_every_deed_of_a_wrong_amount(self):
        for begin in [f"{rule} {each}" for rule in ("may 1 do", "when come all do") for each in ("each", "one")]:
            for kind in KINDS:
                if kind != "leave":
                    self.refused_rule(f"{begin} {kind} all")
                if kind not in NUMBERED:
                    self.refused_rule(f"{begin} {kind} 3 all")
                if kind not in NAMED:
                    self.refused_rule(f"{begin} {kind} grey all")
                for amount in ("-", "0", "01", "-1", "1000", "Grey", "abcdefghi", "1 1", "a a", "1 a", "a 1"):
                    if amount != "0" or kind not in NUMBERED:
                        self.refused_rule(f"{begin} {kind} {amount} all")

    def test_wrong(self):
        for text in ("", "1", "1 do", "do each leave all", "a do each leave all", "01 do each leave all",
                     "1000 do each leave all", "-1 do each leave all", "1 each leave all", "1 do leave all",
                     "1 do all leave all", "1 do any leave all", "1 do one leave", "1 do each one leave all",
                     "1 do each leave all all", "1 2 do each leave all", "1 do each come all", "1 do one come 0 all",
                     "1 do none", "1 do each leave all do", "1 do Each leave all"):
            self.refused_rule("may " + text)


class Wholes(CardTest):
    def test_the_example(self):
        card = read_card(WOLF)
        self.assertEqual(show_card(card), WOLF)
        self.assertEqual((card.name, card.cost, card.force, card.marks), ("wolf", 2, 3, ("fast", "grey")))
        self.assertEqual(plain(card.rules), (
            ("hold", "more", 1, ("whom", "both mine mark grey")),
            ("when", "leave", ("whom", "self"), ("each", "lose", 2, ("whom", "not mine"))),
            ("may", 1, ("one", "hurt", 1, ("whom", "not self"))),
        ))

    def test_kinds_of_the_values(self):
        card = read_card("c 1 1 - / hold be 3 all / when come all do each leave all / instead hurt all do less 2")
        self.assertEqual([type(value) for value in card.rules], [tuple] * 3)
        self.assertEqual([type(value) for value in card.rules[0][:3]], [str, str, int])
        self.assertEqual([type(value) for value in card.rules[1][3][:3]], [str, str, int])
        self.assertEqual([type(value) for value in card.rules[2][3:]], [str, int])
        self.assertIsInstance(card.rules[1][3], tuple)

    def test_whoms_of_a_card_can_be_asked(self):
        card = read_card("c 1 1 - / hold per mark a mark b / may 1 do one lose 1 not mine")
        sight = [(0, 0, ("a",), 1, False), (1, 1, ("b",), 1, False)]
        hold, may = card.rules
        self.assertEqual([hold[2].fits(sight, 0, 0, n) for n in (0, 1)], [True, False])
        self.assertEqual([hold[3].fits(sight, 0, 0, n) for n in (0, 1)], [False, True])
        self.assertEqual([may[2][3].fits(sight, 0, 0, player) for player in (-1, -2)], [False, True])

    def test_up_to_three_rules_in_their_order(self):
        rules = ["hold be 1 all", "may 2 do one draw 1 mine", "instead lose mine do as score"]
        for many in range(4):
            text = " / ".join(["c 1 1 -"] + rules[:many])
            card = read_card(text)
            self.assertEqual([rule[0] for rule in card.rules], ["hold", "may", "instead"][:many])
            self.assertEqual(show_card(card), text)
        self.assertEqual(len(read_card("c 1 1 -" + " / hold mute all" * 3).rules), 3)
        for many in (4, 5, 1000):
            self.refused("c 1 1 -" + " / hold mute all" * many)

    def test_told_again_behind_other_texts(self):
        texts = [WOLF, "a 0 0 -", "b 1 2 x / hold mute all", "b 1 2 y / hold steal not mine / hold be 7 self"]
        cards = [read_card(text) for text in texts]
        self.assertEqual([show_card(card) for card in cards], texts)
        self.assertEqual([show_card(card) for card in reversed(cards)], texts[::-1])
        self.assertEqual([card.marks for card in cards], [("fast", "grey"), (), ("x",), ("y",)])
        again = read_card(texts[2])
        self.assertEqual((plain(again.rules), show_card(again)), (plain(cards[2].rules), texts[2]))

    def test_a_card_read_is_the_askers_own(self):
        spoiled, other = read_card(WOLF), read_card(WOLF)
        spoiled.name, spoiled.cost, spoiled.force, spoiled.marks, spoiled.rules = "lamb", 0, 0, (), ()
        for card in (other, read_card(WOLF)):
            self.assertEqual(show_card(card), WOLF)
            self.assertEqual((card.name, card.cost, card.force, card.marks), ("wolf", 2, 3, ("fast", "grey")))
            self.assertEqual(len(card.rules), 3)

    def test_telling_changes_nothing(self):
        card = read_card(WOLF)
        kept = (card.name, card.cost, card.force, card.marks, card.rules)
        self.assertEqual([show_card(card), show_card(card)], [WOLF, WOLF])
        self.assertEqual((card.name, card.cost, card.force, card.marks, card.rules), kept)

    def test_a_refused_text_changes_nothing(self):
        card = read_card(WOLF)
        for text in (WOLF + " / hold mute all", WOLF + " ", "wolf 2 3 grey,fast"):
            self.refused(text)
        self.assertEqual(show_card(card), WOLF)
        self.assertEqual(show_card(read_card(WOLF)), WOLF)

    def test_blanks_and_line_ends(self):
        for wrong in (" " + WOLF, WOLF + " ", WOLF + "\n", "\n" + WOLF, WOLF + "\t", WOLF + "\r"):
            self.refused(wrong)
        for place, sign in enumerate(WOLF):
            if sign == " ":
                for other in ("  ", "\n", "\t", "", "\u00a0", " \n", "\n "):
                    self.refused(WOLF[:place] + other + WOLF[place + 1:])

    def test_a_line_end_at_any_place(self):
        for place in range(len(WOLF) + 1):
            self.refused(WOLF[:place] + "\n" + WOLF[place:])

    def test_each_word_once_too_few_or_twice(self):
        words = WOLF.split(" ")
        for place, word in enumerate(words):
            if word != "not":
                self.refused(" ".join(words[:place] + words[place + 1:]))
                self.refused(" ".join(words[:place] + [word] + words[place:]))

    def test_slashes(self):
        for text in ("c 1 1 - /", "c 1 1 - / ", "c 1 1 - / /", "c 1 1 - / / hold mute all", "/ c 1 1 -",
                     "c 1 1 -/ hold mute all",
                     "c 1 1 - /hold mute all", "c 1 1 - hold mute all", "c 1 1 - // hold mute all",
                     "c 1 1 - / hold mute all /", "c 1 1 - / hold mute all / ", "c 1 1 - / hold / mute all",
                     "hold mute all / c 1 1 -", "c 1 1 - / c 1 1 -", "c 1 1 - / hold mute all hold mute all",
                     "c 1 1 - / Hold mute all", "c 1 1 - / held mute all", "c 1 1 - / all"):
            self.refused(text)

    def test_whoms_of_nine_words_and_ten(self):
        for rule in ("hold mute {}", "hold per {} all", "hold per all {}", "hold be 3 {}",
                     "when come {} do each leave all",
                     "when come all do each leave {}", "instead hurt {} do none", "may 1 do one gain a {}"):
            text = rule.replace("{}", NINE)
            self.assertIsNotNone(rule_of(text))
            self.refused_rule(rule.replace("{}", "not " + NINE))
            self.refused_rule(rule.replace("{}", "not " * 9 + "all"))
            self.refused_rule(rule.replace("{}", "not " * 4000 + "all"))

    def test_p_and_w_count_each_for_itself(self):
        self.assertEqual(rule_of(f"hold per {NINE} {NINE}"), ("hold", "per", ("whom", NINE), ("whom", NINE)))
        self.refused_rule(f"hold per not {NINE} all")
        self.refused_rule(f"hold per all not {NINE}")
        self.assertIsNotNone(rule_of(f"when come {NINE} do each leave {NINE}"))


if __name__ == "__main__":
    unittest.main()
