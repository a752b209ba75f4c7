"""The table: how it begins, what happens to it, what that calls, and how a deed is done."""

from turnstack.cards import PLAYER_KINDS, read_card
from turnstack.errors import NoFight
from turnstack.layers import joined, layered, without
from turnstack.turns import chosen, put_in_place, rules_meant

FEWEST_PLAYERS = 2
MOST_PLAYERS = 4
MOST_CARDS = 16
MOST_HOLDS = 8
FIRST_POINTS = 20
FIRST_HAND = 3

# Where the parts of a table stand in it.
POINTS = 0
SCORES = 1
GONE = 2
DECKS = 3
HANDS = 4
LYING = 5
HEAP = 6
MARKS = 7
WOUNDS = 8


def begun(decks):
    """The cards, their owners and the table of a fight with these decks."""
    cards = []
    owners = []
    for player, deck in enumerate(decks):
        cards.extend([read_card(text) for text in deck])
        owners.extend([player for text in deck])
    if not FEWEST_PLAYERS <= len(decks) <= MOST_PLAYERS:
        raise NoFight("two to four players fight")
    if len(cards) > MOST_CARDS:
        raise NoFight("a fight has 16 cards at most")
    if sum([many_holds(card) for card in cards]) > MOST_HOLDS:
        raise NoFight("the cards of a fight have 8 hold rules at most")
    return (cards, owners, first_table(cards, owners, len(decks)))


def many_holds(card):
    return len([rule for rule in card.rules if rule[0] == "hold"])


def first_table(cards, owners, players):
    decks = [numbers_of(owners, player) for player in range(players)]
    return (
        (FIRST_POINTS,) * players,
        (0,) * players,
        (False,) * players,
        tuple([deck[FIRST_HAND:] for deck in decks]),
        tuple([deck[:FIRST_HAND] for deck in decks]),
        (),
        (),
        tuple([card.marks for card in cards]),
        (0,) * len(cards),
    )


def numbers_of(owners, player):
    """The numbers of the cards that a player owns."""
    return tuple([number for number, owner in enumerate(owners) if owner == player])


def rows_of(cards, owners, table):
    """The lying cards of a table, as they came."""
    marks = table[MARKS]
    return [(number, cards[number], owners[number], came, marks[number]) for came, number in enumerate(table[LYING])]


def sight_of(cards, owners, table):
    """The sight of a table."""
    return layered(rows_of(cards, owners, table))[0]


def replaced(values, place, value):
    """A tuple with another value at a place."""
    return values[:place] + (value,) + values[place + 1:]


def with_value(table, part, place, value):
    """A table with another value at a place of one of its parts."""
    return replaced(table, part, replaced(table[part], place, value))


def happens(table, happening):
    """Whether a happening happens at all: not to a card that doesn't lie, nor to a player who is gone."""
    kind, thing, amount = happening
    if thing < 0:
        return not table[GONE][-1 - thing]
    return kind == "come" or thing in table[LYING]


def happen(cards, table, happening):
    """The table behind a happening."""
    if not happens(table, happening):
        return table
    if happening[1] < 0:
        return happen_to_player(table, happening)
    return happen_to_card(cards, table, happening)


def happen_to_player(table, happening):
    kind, thing, amount = happening
    player = -1 - thing
    if kind == "lose":
        return with_value(table, POINTS, player, table[POINTS][player] - amount)
    if kind == "score":
        return with_value(table, SCORES, player, table[SCORES][player] + amount)
    deck = table[DECKS][player]
    hand = tuple(sorted(table[HANDS][player] + deck[:amount]))
    return with_value(with_value(table, HANDS, player, hand), DECKS, player, deck[amount:])


def happen_to_card(cards, table, happening):
    kind, number, amount = happening
    if kind == "come":
        return replaced(renewed(cards, table, number), LYING, table[LYING] + (number,))
    if kind == "leave":
        return put_away(cards, table, number)
    if kind == "hurt":
        return with_value(table, WOUNDS, number, table[WOUNDS][number] + amount)
    marks = table[MARKS][number]
    return with_value(table, MARKS, number, joined(marks, amount) if kind == "gain" else without(marks, amount))


def renewed(cards, table, number):
    """A table with a card as its text tells it: without wounds, with its text's marks."""
    return with_value(with_value(table, MARKS, number, cards[number].marks), WOUNDS, number, 0)


def put_away(cards, table, number):
    """A table with a card in the heap that lay or waited ahead."""
    table = renewed(cards, table, number)
    table = replaced(table, LYING, without(table[LYING], number))
    return replaced(table, HEAP, joined(table[HEAP], number))


def called(cards, owners, table, happening):
    """The when rules that a happening calls which is about to be done to a table, as (keeper, number, place)."""
    if not happens(table, happening):
        return []
    return done_to(cards, owners, table, sight_of(cards, owners, table), happening)[2]


def done_to(cards, owners, table, sight, happening):
    """The table and its sight behind a happening that happens, and what it calls."""
    then = happen(cards, table, happening)
    then_sight = sight
    # Only what lies and its marks make a sight; it is told anew just where these are others, since that takes long.
    if (then[LYING], then[MARKS]) != (table[LYING], table[MARKS]):
        then_sight = sight_of(cards, owners, then)
    # A card that leaves is asked while it lies: it may call its own rules.
    if happening[0] == "leave":
        meant = rules_meant(rows_of(cards, owners, table), sight, "when", happening)
    else:
        meant = rules_meant(rows_of(cards, owners, then), then_sight, "when", happening)
    return (then, then_sight, [(keeper, number, place) for came, place, number, keeper in meant])


def done(cards, owners, table, deed, number, keeper, choices):
    """The table behind a deed, its log, what it called and the choices left."""
    each, kind, amount, whom = deed
    sight = sight_of(cards, owners, table)
    ways = [thing for thing in things_of(table, kind) if whom.fits(sight, number, keeper, thing)]
    left = list(choices)
    if each == "one" and ways:
        way, left = chosen(len(ways), left)
        ways = [ways[way]]
    return put_all(cards, owners, table, sight, [(kind, thing, amount) for thing in ways], left)


def things_of(table, kind):
    """The things to which a kind of happening can happen, in their order."""
    if kind in PLAYER_KINDS:
        return [-1 - player for player, gone in enumerate(table[GONE]) if not gone]
    return sorted(table[LYING])


def put_all(cards, owners, table, sight, happenings, choices):
    """As done, of happenings that are put in place and done one behind the other, each if its card lies still."""
    log = []
    calls = []
    left = list(choices)
    for happening in happenings:
        if happens(table, happening):
            trail, came, left = put_in_place(rows_of(cards, owners, table), sight, happening, left)
            log.append((happening, trail, came))
            if came is not None:
                table, sight, more = done_to(cards, owners, table, sight, came)
                calls.extend(more)
    return (table, log, calls, left)
