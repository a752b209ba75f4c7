"""Put in place: what choices choose, and what the instead rules of lying cards make of a happening."""

from turnstack.layers import rule_of
from turnstack.whoms import row_of


def chosen(ways, choices):
    """The way that is chosen among so many, and the choices left."""
    if ways == 1 or not choices:
        return (0, list(choices))
    return (choices[0] % ways, list(choices[1:]))


def rules_meant(lying, sight, sort, happening):
    """The when or instead rules that mean a happening, as (came, place, number, keeper of the card), sorted."""
    kind, thing, amount = happening
    found = []
    for number, card, owner, came, marks in lying:
        keeper = row_of(sight, number)[1]
        for place, rule in enumerate(card.rules):
            if rule[0] == sort and rule[1] == kind and rule[2].fits(sight, number, keeper, thing):
                found.append((came, place, number, keeper))
    return sorted(found)


def rules_for(lying, sight, happening, used):
    """The instead rules that may be put to a happening, as (came, number, place), sorted."""
    meant = rules_meant(lying, sight, "instead", happening)
    return [(came, number, place) for came, place, number, keeper in meant if (number, place) not in used]


def turned(happening, word, value, number):
    """What a happening becomes by a turn of the card with that number; None for nothing."""
    kind, thing, amount = happening
    if word == "none":
        return None
    if word == "here":
        return (kind, number, amount)
    if word == "less":
        return (kind, thing, max(0, amount - value))
    if word == "more":
        return (kind, thing, amount + value)
    return (value, thing, amount)


def player_of(sight, thing):
    """The player who chooses what is put to the happenings of a thing."""
    if thing < 0:
        return -1 - thing
    return row_of(sight, thing)[1]


def put_in_place(lying, sight, happening, choices):
    """The trail of the rules put to a happening, what came of it, and the choices left."""
    trail = []
    used = []
    left = list(choices)
    rules = rules_for(lying, sight, happening, used)
    while rules:
        player = player_of(sight, happening[1])
        way, left = chosen(len(rules), left)
        came, number, place = rules[way]
        rule = rule_of(lying, number, place)
        happening = turned(happening, rule[3], rule[4], number)
        used.append((number, place))
        trail.append((player, number, place, happening))
        rules = [] if happening is None else rules_for(lying, sight, happening, used)
    return (trail, happening, left)
