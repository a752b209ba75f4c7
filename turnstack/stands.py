"""Stands: the table with the pile and the players' turns, and what each deed makes of a stand."""

from turnstack.layers import without
from turnstack.looks import looked
from turnstack.table import GONE, HANDS, SCORES, done, done_to, put_all, put_away, replaced, sight_of, with_value
from turnstack.turns import chosen

PLACES = 40
TURN_COINS = 5
FULL = ("full",)
DEED_PLACES = {"when": 3, "may": 2}


def first_stand(table):
    """The stand that a fight begins with."""
    others = len(table[GONE]) - 1
    return (table, (), 0, 0, 0, (TURN_COINS,) + (0,) * others, None)


def players_from(table, player):
    """The players who aren't gone, in their order, from a player on."""
    many = len(table[GONE])
    around = [(player + steps) % many for steps in range(many)]
    return [one for one in around if not table[GONE][one]]


def put_on(pile, waiting):
    """The pile with as many waiting ones put on it as find place there, and whether all of them did."""
    places = PLACES - len(pile)
    return (pile + tuple(waiting[:places]), len(waiting) <= places)


def paid(coins, player, cost):
    return replaced(coins, player, coins[player] - cost)


def played(cards, stand, player, number):
    """The stand behind the playing of a card."""
    table, pile, turn, word, passes, coins, over = stand
    table = with_value(table, HANDS, player, without(table[HANDS][player], number))
    pile, placed = put_on(pile, [("card", player, number, 0)])
    if not placed:
        table = put_away(cards, table, number)
    return (table, pile, turn, word, 0, paid(coins, player, cards[number].cost), None if placed else FULL)


def used(cards, stand, player, number, place):
    """The stand behind the use of a may rule."""
    table, pile, turn, word, passes, coins, over = stand
    pile, placed = put_on(pile, [("rule", player, number, place)])
    cost = cards[number].rules[place][1]
    return (table, pile, turn, word, 0, paid(coins, player, cost), None if placed else FULL)


def let_go(cards, owners, stand, choices):
    """The stand behind a letting go of the player who has the word, and the log."""
    table, pile, turn, word, passes, coins, over = stand
    if passes + 1 < len(players_from(table, word)):
        return ((table, pile, turn, players_from(table, word + 1)[0], passes + 1, coins, None), [])
    if pile:
        outcome = top_done(cards, owners, table, pile[-1], choices)
        return settled(cards, owners, outcome, pile[:-1], turn, word, coins)
    turn = players_from(table, turn + 1)[0]
    outcome = put_all(cards, owners, table, sight_of(cards, owners, table), [("draw", -1 - turn, 1)], choices)
    return settled(cards, owners, outcome, pile, turn, word, replaced(coins, turn, TURN_COINS))


def top_done(cards, owners, table, top, choices):
    """What comes of a waiting one, told as done tells it."""
    sort, player, number, place = top
    if sort == "rule":
        rule = cards[number].rules[place]
        return done(cards, owners, table, rule[DEED_PLACES[rule[0]]], number, player, choices)
    happening = ("come", number, 0)
    then, sight, calls = done_to(cards, owners, table, sight_of(cards, owners, table), happening)
    return (then, [(happening, [], happening)], calls, list(choices))


def settled(cards, owners, outcome, pile, turn, word, coins):
    """The stand, and the log, behind what was done: the looks, the piling, the word and the end."""
    table, log, calls, left = outcome
    table, look_log, look_calls, left = looked(cards, owners, table, left)
    table, pile = swept(cards, table, pile)
    pile, placed = put_on(pile, in_piling_order(table, turn, calls + look_calls, left))
    players = players_from(table, turn)
    if players:
        word = players[0]
    return ((table, pile, turn, word, 0, coins, end_of(players, placed)), log + look_log)


def swept(cards, table, pile):
    """The table and the pile without what waits for players who are gone: their cards are in the heap."""
    gone = [one for one in pile if table[GONE][one[1]]]
    for sort, player, number, place in gone:
        if sort == "card":
            table = put_away(cards, table, number)
    return (table, tuple([one for one in pile if not table[GONE][one[1]]]))


def in_piling_order(table, turn, calls, choices):
    """The called ones of players who aren't gone, as waiting ones, in the order in which they are put on the pile."""
    waiting = []
    left = choices
    for player in players_from(table, turn):
        own = [one for one in calls if one[0] == player]
        while own:
            way, left = chosen(len(own), left)
            keeper, number, place = own.pop(way)
            waiting.append(("rule", player, number, place))
    return waiting


def end_of(players, placed):
    """How the fight ended with these players left, None where it goes on."""
    if len(players) == 1:
        return ("won", players[0])
    if not players:
        return ("none",)
    return None if placed else FULL


def same_but_scores(one, other):
    """Whether two stands differ in the scores alone, if at all."""
    return without_scores(one) == without_scores(other)


def without_scores(stand):
    return (replaced(stand[0], SCORES, ()),) + stand[1:]


def grown(ahead, stand, many):
    """A stand whose scores have grown many times more by what they grew since the stand ahead."""
    table = stand[0]
    scores = [now + many * (now - then) for then, now in zip(ahead[0][SCORES], table[SCORES])]
    return (replaced(table, SCORES, tuple(scores)),) + stand[1:]
