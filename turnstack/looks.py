"""Looks at the table: who is gone, and which cards leave for their wounds."""

from turnstack.table import GONE, LYING, POINTS, WOUNDS, put_all, put_away, replaced, sight_of


def looked(cards, owners, table, choices):
    """The table looked at until it rests, the log of all looks, what they called and the choices left."""
    log = []
    calls = []
    left = list(choices)
    rests = False
    while not rests:
        then, entries, more, left = look(cards, owners, table, left)
        log.extend(entries)
        calls.extend(more)
        rests = then == table
        table = then
    return (table, log, [one for one in calls if not table[GONE][one[0]]], left)


def look(cards, owners, table, choices):
    """One look, told as looked tells all of them."""
    table = with_gone(cards, owners, table)
    sight = sight_of(cards, owners, table)
    leavings = [("leave", row[0], 0) for row in sight if table[WOUNDS][row[0]] >= row[3]]
    return put_all(cards, owners, table, sight, leavings, choices)


def with_gone(cards, owners, table):
    """The table with the players gone who have no points left, and their own lying cards in the heap."""
    gone = table[GONE]
    going = [points <= 0 and not gone[player] for player, points in enumerate(table[POINTS])]
    theirs = [number for number in table[LYING] if going[owners[number]]]
    for number in theirs:
        table = put_away(cards, table, number)
    return replaced(table, GONE, tuple([ahead or now for ahead, now in zip(gone, going)]))
