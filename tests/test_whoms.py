import copy
import random
import unittest

from helper import plain_fits, random_whom, told_sight, whom_text
from turnstack.errors import NoCard
from turnstack.whoms import is_name, is_number, read_whom

WORDS = ("all", "self", "mine", "mark", "force", "not", "both", "any")

# number, keeper, marks, force, mute
SIGHT = [
    (0, 0, ("fast", "grey"), 3, False),
    (2, 1, (), -2, False),
    (5, 0, ("grey",), 0, True),
    (9, 2, ("all", "not"), 10, False),
]
CARDS = (0, 2, 5, 9)
PLAYERS = (-1, -2, -3, -4)


def signs_without(known):
    """All signs of one byte but the known ones."""
    return [chr(code) for code in range(256) if chr(code) not in known]


def fitting(text, number, keeper, sight=SIGHT):
    whom = read_whom(text)
    return [thing for thing in CARDS + PLAYERS if whom.fits(sight, number, keeper, thing)]


class Names(unittest.TestCase):
    def test_small_letters_one_to_eight(self):
        for word in ("a", "z", "ab", "wolf", "abcdefgh", "zzzzzzzz", "all", "do", "hold"):
            self.assertIs(is_name(word), True, word)

    def test_every_small_letter(self):
        for letter in "abcdefghijklmnopqrstuvwxyz":
            self.assertIs(is_name(letter), True, letter)

    def test_too_short_or_too_long(self):
        for word in ("", "abcdefghi", "a" * 1000):
            self.assertIs(is_name(word), False, word)

    def test_other_signs_at_any_place(self):
        for sign in signs_without("abcdefghijklmnopqrstuvwxyz"):
            for word in (sign, sign + "ab", "a" + sign + "b", "ab" + sign, "abcdefgh" + sign, sign + "abcdefgh"):
                self.assertIs(is_name(word), False, repr(word))

    def test_letters_of_elsewhere(self):
        for sign in "\u00e4\u00e9\u00df\u03b1\u0430\uff41\u0131\u017f\u00aa\u4e00":
            for word in (sign, "a" + sign, sign + "a"):
                self.assertIs(is_name(word), False, repr(word))


class Numbers(unittest.TestCase):
    def test_every_number_of_one_to_three_figures(self):
        for number in range(1000):
            self.assertIs(is_number(str(number)), True, number)

    def test_too_short_too_long_or_with_a_0_ahead(self):
        for word in ("", "1000", "9999", "00", "01", "000", "001", "010", "0999", "1" * 1000):
            self.assertIs(is_number(word), False, word)

    def test_other_signs_among_the_figures(self):
        for sign in signs_without("0123456789"):
            for word in (sign, sign + "1", "1" + sign, "1" + sign + "2", sign + "12", "12" + sign):
                self.assertIs(is_number(word), False, repr(word))

    def test_figures_of_elsewhere(self):
        for sign in "\u0663\u00b2\uff11\u0967\u2460\u00bd":
            for word in (sign, "1" + sign, sign + "1"):
                self.assertIs(is_number(word), False, repr(word))


class Reading(unittest.TestCase):
    def refused(self, text):
        with self.assertRaises(NoCard, msg=repr(text)[:80]):
            read_whom(text)

    def test_told_again(self):
        texts = (
            "all", "self", "mine", "mark grey", "force 0", "force 10", "force 999", "not all", "both self mine",
            "any mark a mark abcdefgh", "not not not self", "both any self mine not force 3",
            "any both mark a mark b both mark c mark d", "mark all", "mark not", "mark both", "both mark any mark mark",
            "any mark force force 1", "not mark self",
        )
        whoms = [read_whom(text) for text in texts]
        for text, whom in zip(texts, whoms):
            self.assertEqual(whom.told(), text)
            self.assertEqual(whom.told(), text)

    def test_what_is_no_text(self):
        for thing in (None, 0, 5, True, ["all"], ("all",), {"all": 1}, b"all", 1.5, read_whom("all")):
            self.refused(thing)

    def test_words_of_other_sorts(self):
        for text in (
            "", "none", "All", "ALL", "al", "alls", "grey", "3", "-", "all,", "mark", "force", "not", "both", "any",
            "mark 3", "mark -", "mark Grey", "mark abcdefghi", "mark a,b", "force grey", "force -1", "force 01",
            "force 1000", "force +1", "force 1.0", "not 3", "not grey", "both all", "any self", "both all grey",
            "mark force 1", "force mark a", "all / all", "per all all",
        ):
            self.refused(text)

    def test_words_too_many(self):
        for text in ("all all", "self mine", "mark a b", "mark a mark b", "force 1 2", "not all all",
                     "both all all all", "any all all all", "all do"):
            self.refused(text)

    def test_blanks_and_line_ends(self):
        for text in ("both mark a force 1", "all", "not self"):
            for wrong in (" " + text, text + " ", text + "\n", "\n" + text, text + "\t", "\t" + text):
                self.refused(wrong)
        for text in ("both  all all", "both all  all", "mark  a", "force  1", "not\nall", "mark\na", "mark a\n",
                     "not\tall", " ", "  ", "\n"):
            self.refused(text)

    def test_nine_words_at_most(self):
        for many in range(9):
            self.assertEqual(read_whom("not " * many + "all").told(), "not " * many + "all")
        self.refused("not " * 9 + "all")
        self.refused("not " * 9 + "mark a")

    def test_nine_words_in_other_forms(self):
        nine = "both any mark a mark b any force 1 both self mine"
        self.assertEqual(read_whom(nine).told(), nine)
        self.refused("not " + nine)
        self.refused("both any mark a mark b any force 1 both self not mine")
        self.assertEqual(read_whom("both " * 4 + "all " * 4 + "all").told(), "both " * 4 + "all " * 4 + "all")
        self.refused("any " * 5 + "all " * 5 + "all")

    def test_names_and_numbers_do_not_count(self):
        marks = "both " * 4 + " ".join(["mark all"] * 5)
        forces = "any " * 4 + " ".join(["force 999"] * 5)
        self.assertEqual(read_whom(marks).told(), marks)
        self.assertEqual(read_whom(forces).told(), forces)

    def test_thousands_of_words(self):
        for text in ("not " * 5000 + "all", "both " * 3000 + "all " * 3000 + "all", "not " * 20000,
                     "all " * 5000 + "all",
                     "mark " * 5000 + "a"):
            self.refused(text)


class Fitting(unittest.TestCase):
    def test_all(self):
        for number in (0, 7):
            self.assertEqual(fitting("all", number, 0), list(CARDS + PLAYERS))

    def test_self(self):
        self.assertEqual(fitting("self", 0, 0), [0])
        self.assertEqual(fitting("self", 9, 0), [9])
        self.assertEqual(fitting("self", 1, 0), [])
        self.assertEqual(fitting("self", 5, 3), [5])

    def test_mine(self):
        self.assertEqual(fitting("mine", 0, 0), [0, 5, -1])
        self.assertEqual(fitting("mine", 0, 1), [2, -2])
        self.assertEqual(fitting("mine", 7, 2), [9, -3])
        self.assertEqual(fitting("mine", 9, 3), [-4])

    def test_mark(self):
        self.assertEqual(fitting("mark grey", 0, 0), [0, 5])
        self.assertEqual(fitting("mark fast", 7, 1), [0])
        self.assertEqual(fitting("mark gre", 0, 0), [])
        self.assertEqual(fitting("mark g", 0, 0), [])

    def test_a_mark_called_like_a_word(self):
        self.assertEqual(fitting("mark all", 0, 0), [9])
        self.assertEqual(fitting("mark not", 0, 0), [9])
        self.assertEqual(fitting("not mark all", 0, 0), [0, 2, 5, -1, -2, -3, -4])
        self.assertEqual(fitting("mark self", 0, 0), [])

    def test_force(self):
        self.assertEqual(fitting("force 0", 0, 0), [0, 5, 9])
        self.assertEqual(fitting("force 1", 0, 0), [0, 9])
        self.assertEqual(fitting("force 3", 7, 0), [0, 9])
        self.assertEqual(fitting("force 4", 0, 0), [9])
        self.assertEqual(fitting("force 10", 0, 0), [9])
        self.assertEqual(fitting("force 11", 0, 0), [])

    def test_not(self):
        self.assertEqual(fitting("not all", 0, 0), [])
        self.assertEqual(fitting("not self", 2, 0), [0, 5, 9, -1, -2, -3, -4])
        self.assertEqual(fitting("not mine", 0, 0), [2, 9, -2, -3, -4])
        self.assertEqual(fitting("not mark grey", 0, 0), [2, 9, -1, -2, -3, -4])
        self.assertEqual(fitting("not force 0", 0, 0), [2, -1, -2, -3, -4])
        self.assertEqual(fitting("not not mine", 0, 0), [0, 5, -1])

    def test_both(self):
        self.assertEqual(fitting("both mine mark fast", 0, 0), [0])
        self.assertEqual(fitting("both mark fast mine", 0, 0), [0])
        self.assertEqual(fitting("both mark grey not force 1", 0, 0), [5])
        self.assertEqual(fitting("both all not all", 0, 0), [])
        self.assertEqual(fitting("both all all", 0, 0), list(CARDS + PLAYERS))

    def test_any(self):
        self.assertEqual(fitting("any self mark all", 2, 0), [2, 9])
        self.assertEqual(fitting("any mark all self", 2, 0), [2, 9])
        self.assertEqual(fitting("any mine mark grey", 0, 0), [0, 5, -1])
        self.assertEqual(fitting("any not all not all", 0, 0), [])
        self.assertEqual(fitting("any all not all", 0, 0), list(CARDS + PLAYERS))

    def test_nested(self):
        self.assertEqual(fitting("not both mark grey force 1", 0, 0), [2, 5, 9, -1, -2, -3, -4])
        self.assertEqual(fitting("both any self mine not mark grey", 2, 0), [2, -1])
        self.assertEqual(fitting("any both mark grey force 3 both mark not force 9", 7, 3), [0, 9])
        self.assertEqual(fitting("both not mine any mark not not force 0", 7, 0), [2, 9, -2, -3, -4])

    def test_the_keeper_asked_for_counts(self):
        self.assertEqual(fitting("both self mine", 2, 0), [])
        self.assertEqual(fitting("both self mine", 2, 1), [2])

    def test_a_mute_card_fits_like_others(self):
        self.assertEqual(fitting("both mine mark grey", 5, 0), [0, 5])

    def test_truths(self):
        for text in ("all", "self", "mine", "mark grey", "force 1", "not self", "both all mark grey",
                     "any self force 1"):
            whom = read_whom(text)
            for thing in CARDS + PLAYERS:
                self.assertIsInstance(whom.fits(SIGHT, 0, 0, thing), bool)

    def test_the_sight_as_it_is_when_asked(self):
        whom = read_whom("both mine both mark a force 2")
        sight = [(0, 1, ("a",), 2, False)]
        self.assertIs(whom.fits(sight, 3, 1, 0), True)
        for other in ((0, 0, ("a",), 2, False), (0, 1, ("b",), 2, False), (0, 1, ("a",), 1, False)):
            sight[0] = other
            self.assertIs(whom.fits(sight, 3, 1, 0), False)
        sight[0] = (0, 1, ("a", "b"), 3, True)
        self.assertIs(whom.fits(sight, 3, 1, 0), True)

    def test_no_lying_card(self):
        self.assertEqual([read_whom("mine").fits([], 0, 1, player) for player in PLAYERS], [False, True, False, False])
        self.assertIs(read_whom("all").fits([], 0, 1, -1), True)
        self.assertIs(read_whom("self").fits([], 0, 0, -1), False)

    def test_nothing_handed_in_is_changed(self):
        sight = copy.deepcopy(SIGHT)
        whom = read_whom("both any self mine not mark grey")
        told = whom.told()
        for thing in CARDS + PLAYERS:
            whom.fits(sight, 2, 0, thing)
        self.assertEqual(sight, SIGHT)
        self.assertEqual(whom.told(), told)

    def test_many_whoms_against_another_telling(self):
        rng = random.Random(5)
        for _ in range(1500):
            plain = random_whom(rng, 3)
            text = whom_text(plain)
            if sum(word in WORDS for word in text.split()) > 9:
                self.assertRaises(NoCard, read_whom, text)
                continue
            sight = {n: [rng.randrange(4), set(rng.sample("abc", rng.randrange(4))), rng.randrange(-1, 6), False]
                     for n in rng.sample(range(6), rng.randrange(6))}
            whom, number, keeper = read_whom(text), rng.randrange(6), rng.randrange(4)
            self.assertEqual(whom.told(), text)
            for thing in list(sight) + list(PLAYERS):
                self.assertIs(whom.fits(told_sight(sight), number, keeper, thing),
                              plain_fits(plain, sight, number, keeper, thing), (text, sight, number, keeper, thing))


if __name__ == "__main__":
    unittest.main()
