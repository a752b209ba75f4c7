"""Reasons against a deed: the first one that stands, None where none does; and what a player may do."""

from turnstack.table import HANDS
from turnstack.whoms import row_of


def against_speaking(stand, player):
    table, pile, turn, word, passes, coins, over = stand
    if over is not None:
        return "over"
    if player != word:
        return "word"
    return None


def against_playing(cards, stand, player, number):
    table, pile, turn, word, passes, coins, over = stand
    why = against_speaking(stand, player)
    if why is not None:
        return why
    if player != turn or pile:
        return "turn"
    if number not in table[HANDS][player]:
        return "hand"
    if cards[number].cost > coins[player]:
        return "coins"
    return None


def against_using(cards, sight, stand, player, number, place):
    table, pile, turn, word, passes, coins, over = stand
    why = against_speaking(stand, player)
    if why is not None:
        return why
    row = row_of(sight, number)
    if row is None or row[1] != player:
        return "card"
    rules = cards[number].rules
    # A place below 0 would count from the last rule.
    if not 0 <= place < len(rules) or rules[place][0] != "may":
        return "rule"
    if rules[place][1] > coins[player]:
        return "coins"
    return None


def allowed(cards, sight, stand, player):
    """The deeds of a player against which no reason stands."""
    found = []
    for number in range(len(cards)):
        if against_playing(cards, stand, player, number) is None:
            found.append(("play", number))
    for number, card in enumerate(cards):
        for place in range(len(card.rules)):
            if against_using(cards, sight, stand, player, number, place) is None:
                found.append(("use", number, place))
    if against_speaking(stand, player) is None:
        found.append(("let",))
    return found
