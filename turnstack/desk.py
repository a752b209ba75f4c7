"""The desk: a fight that is told rows and answers texts."""

from turnstack.cards import show_marks
from turnstack.errors import NoCard, NoRow
from turnstack.lines import deed_of, do_deed, with_numbers, words_of
from turnstack.rings import ring
from turnstack.saves import read_fight, written
from turnstack.table import GONE, POINTS, SCORES
from turnstack.whoms import row_of

# How many numbers stand behind the first word of each row that is no deed's.
ROW_NUMBERS = {"back": 1, "may": 1, "card": 1, "ring": 0, "points": 0, "scores": 0, "over": 0, "text": 0}
# The rows whose first number is a player's.
PLAYER_ROWS = ("play", "use", "let", "may")


class Desk:
    """A desk at which the fight of a text goes on."""

    def __init__(self, text):
        self.fight = read_fight(text)

    def say(self, row):
        """The answer to a row."""
        asked = read_row(row, len(self.fight.stand()[0][GONE]))
        if asked[0] in ROW_NUMBERS:
            return answer_of(self.fight, asked)
        do_deed(self.fight, asked)
        return "ok"


def read_row(row, players):
    """The first word of a row with what stands behind it, in a fight of so many players."""
    if not isinstance(row, str):
        raise NoRow("a row is a text")
    words = row.split(" ")
    if words[0] in ROW_NUMBERS:
        asked = with_numbers(words, ROW_NUMBERS[words[0]])
    else:
        asked = deed_of(row)
    if asked is None:
        raise NoRow("there is no such row")
    if asked[0] in PLAYER_ROWS and asked[1] >= players:
        raise NoRow("there is no such player")
    return asked


def answer_of(fight, asked):
    """The answer to a row that is no deed's."""
    table, pile, turn, word, passes, coins, over = fight.stand()
    if asked[0] == "back":
        fight.back(asked[1])
        return "ok"
    if asked[0] == "may":
        return "; ".join([words_of(deed) for deed in fight.may_do(asked[1])])
    if asked[0] == "card":
        return card_answer(fight.sight_now(), asked[1])
    if asked[0] == "ring":
        found = ring(fight)
        return "none" if found is None else words_of(found)
    if asked[0] == "points":
        return words_of(table[POINTS])
    if asked[0] == "scores":
        return words_of(table[SCORES])
    if asked[0] == "over":
        return "no" if over is None else words_of(over)
    return written(fight)


def card_answer(sight, asked):
    """What the card with the number asked is in a sight."""
    row = row_of(sight, asked)
    if row is None:
        raise NoCard("no such card lies")
    number, keeper, marks, force, mute = row
    return words_of([keeper, force, show_marks(marks)] + (["mute"] if mute else []))
