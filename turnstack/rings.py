"""Rings: rows of lettings go that lead back to a stand and that nobody can leave."""

from turnstack.reasons import allowed
from turnstack.stands import let_go, without_scores
from turnstack.table import sight_of

MOST_LETTINGS = 60


def ring(fight):
    """The number of the stand at which a ring begins and how many stands it has; None where there is none."""
    cards = fight.cards()
    owners = fight.owners()
    stand = fight.stand()
    known = [without_scores(stand)]
    while len(known) <= MOST_LETTINGS and must_let(cards, owners, stand):
        stand, log = let_go(cards, owners, stand, [])
        same = without_scores(stand)
        if same in known:
            begin = known.index(same)
            return (begin, len(known) - begin)
        known.append(same)
    return None


def must_let(cards, owners, stand):
    """Whether something waits and the player who has the word may do nothing but let go."""
    table, pile, turn, word, passes, coins, over = stand
    return len(pile) > 0 and allowed(cards, sight_of(cards, owners, table), stand, word) == [("let",)]
