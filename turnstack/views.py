"""Views: what of a fight is each player's to know."""

from turnstack.cards import show_card


def told(fight, player):
    """What a player is told of a fight."""
    table, pile, turn, word, passes, coins, over = fight.stand()
    points, scores, gone, decks, hands, lying, heap, marks, wounds = table
    seen = hands[player] + lying + heap + played_ones(pile)
    return (
        points,
        scores,
        gone,
        hands[player],
        how_many(hands),
        how_many(decks),
        lying,
        heap,
        wounds,
        pile,
        turn,
        word,
        passes,
        coins,
        over,
        fight.sight_now(),
        texts_of(fight.cards(), seen),
    )


def how_many(parts):
    """How many cards each player has there."""
    return tuple([len(part) for part in parts])


def played_ones(pile):
    """The numbers of the played cards that wait on a pile."""
    return tuple([number for sort, player, number, place in pile if sort == "card"])


def texts_of(cards, numbers):
    """The texts of the cards with these numbers, by number."""
    return tuple([(number, show_card(cards[number])) for number in sorted(numbers)])
