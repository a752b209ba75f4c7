"""Layers: what each lying card is, by the hold rules of all of them."""

from turnstack.whoms import row_of

# The layer of each change's word.
LAYERS = {"mute": 0, "steal": 1, "gain": 2, "lack": 2, "be": 3, "more": 4, "less": 4, "per": 4}
MANY_LAYERS = 5


def first_sight(lying):
    """The sight of lying cards ahead of all changes."""
    return sorted([(number, keeper, tuple(marks), card.force, False) for number, card, keeper, came, marks in lying])


def changes(lying):
    """All changes of lying cards, sorted."""
    found = []
    for number, card, keeper, came, marks in lying:
        for place, rule in enumerate(card.rules):
            if rule[0] == "hold":
                found.append((LAYERS[rule[1]], came, number, place))
    return sorted(found)


def reach(lying, sight, change):
    """The lying cards that a change changes in a sight, each with the amount."""
    asker = row_of(sight, change[2])
    if asker[4]:
        return []
    rule = rule_of(lying, change[2], change[3])
    fitting = numbers_fitting(sight, rule[3], asker)
    amount = amount_of(sight, rule, asker)
    return [(number, amount) for number in fitting]


def rule_of(lying, number, place):
    """The rule of a lying card that stands at a place."""
    rules = [row[1].rules for row in lying if row[0] == number]
    return rules[0][place]


def numbers_fitting(sight, whom, asker):
    """The numbers of the lying cards that fit a whom, asked by the card of a row of the sight and for its keeper."""
    return [row[0] for row in sight if whom.fits_row(row, asker[0], asker[1], row[0])]


def amount_of(sight, rule, asker):
    word = rule[1]
    if word == "mute":
        return 0
    if word == "steal":
        return asker[1]
    if word == "less":
        return -rule[2]
    if word == "per":
        return len(numbers_fitting(sight, rule[2], asker))
    return rule[2]


def behind(lying, sight, change):
    """The sight that a change makes of a sight."""
    word = rule_of(lying, change[2], change[3])[1]
    amounts = dict(reach(lying, sight, change))
    return [changed(row, word, amounts[row[0]]) if row[0] in amounts else row for row in sight]


def changed(row, word, amount):
    """A row of a sight with the change of a word done to it."""
    if word == "mute":
        return row[:4] + (True,)
    if word == "steal":
        return row[:1] + (amount,) + row[2:]
    if word == "gain":
        return row[:2] + (joined(row[2], amount),) + row[3:]
    if word == "lack":
        return row[:2] + (without(row[2], amount),) + row[3:]
    if word == "be":
        return row[:3] + (amount,) + row[4:]
    return row[:3] + (row[3] + amount,) + row[4:]


def joined(values, one):
    """A tuple with one among its values, rising, each once."""
    return tuple(sorted(set(values + (one,))))


def without(values, one):
    """A tuple without one of its values; the others stay in their order."""
    return tuple([value for value in values if value != one])


def leans(lying, sight, one, other):
    """Whether a change leans on another one in a sight."""
    return other in leaned_on(lying, sight, [one, other])[one]


def waits(lying, sight, some, one):
    """The changes among some of them that one of these waits for in a sight, sorted."""
    return waited_for(leaned_on(lying, sight, some), one)


def leaned_on(lying, sight, some):
    """A dict: for each of some changes the list of those of them that it leans on."""
    # Each sight behind is made once here, not once for each pair: a sight is asked for often.
    sights = [(other, behind(lying, sight, other)) for other in some]
    found = {}
    for one in some:
        now = reach(lying, sight, one)
        others = [pair for pair in sights if pair[0] != one and pair[0][0] == one[0]]
        found[one] = [other for other, then in others if reach(lying, then, one) != now]
    return found


def waited_for(leaned, one):
    return sorted([other for other in led_to(leaned, one) if one not in led_to(leaned, other)])


def led_to(leaned, one):
    """A dict whose keys are the changes that rows of leanings lead to from one."""
    found = {}
    left = list(leaned[one])
    while left:
        change = left.pop()
        if change not in found:
            found[change] = True
            left.extend(leaned[change])
    return found


def layered(lying):
    """The last sight of lying cards, and the order of the changes that led to it."""
    sight = first_sight(lying)
    order = []
    every = changes(lying)
    for layer in range(MANY_LAYERS):
        left = [change for change in every if change[0] == layer]
        while left:
            change = next_of(lying, sight, left)
            order.append((change, reach(lying, sight, change)))
            sight = behind(lying, sight, change)
            left.remove(change)
    return (sight, order)


def next_of(lying, sight, left):
    """The least of the changes left that waits for none of them."""
    leaned = leaned_on(lying, sight, left)
    return min([change for change in left if not waited_for(leaned, change)])
