"""Saves: whole fights written as texts and read again."""

from turnstack.cards import show_card
from turnstack.errors import FightError, NoFight
from turnstack.fight import Fight
from turnstack.lines import deed_of, do_deed, line_of
from turnstack.table import GONE

PLAYER_LINE = "player"
DEEDS_LINE = "deeds"


def written(fight):
    """The text of a fight: its decks and the deeds that were done and not taken back."""
    lines = []
    texts = [show_card(card) for card in fight.cards()]
    owners = fight.owners()
    for player in range(len(fight.stand()[0][GONE])):
        lines.append(PLAYER_LINE)
        lines.extend([text for text, owner in zip(texts, owners) if owner == player])
    lines.append(DEEDS_LINE)
    lines.extend([line_of(deed) for deed in fight.deeds()])
    return "\n".join(lines)


def read_fight(text):
    """The fight that a text tells, with its deeds done."""
    if not isinstance(text, str):
        raise NoFight("a fight is told by a text")
    lines = text.split("\n")
    if DEEDS_LINE not in lines:
        raise NoFight("the line deeds is missing")
    end = lines.index(DEEDS_LINE)
    fight = fight_of(decks_of(lines[:end]))
    for line in lines[end + 1:]:
        do_line(fight, line)
    return fight


def decks_of(lines):
    """The decks that the lines ahead of the deeds tell."""
    decks = []
    for line in lines:
        if line == PLAYER_LINE:
            decks.append([])
        elif decks:
            decks[-1].append(line)
        else:
            raise NoFight("a line stands ahead of the first player")
    return decks


def fight_of(decks):
    try:
        return Fight(decks)
    except FightError as refusal:
        raise NoFight("no fight can be begun with these cards") from refusal


def do_line(fight, line):
    deed = deed_of(line)
    if deed is None:
        raise NoFight("a line tells no deed")
    try:
        do_deed(fight, deed)
    except FightError as refusal:
        raise NoFight("a deed is refused") from refusal
