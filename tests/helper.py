"""What several tests use: cards made of plain data, and the layers told a second time, in another way.

A plain whom is a nested tuple: ("both", ("mine",), ("mark", "grey")). A plain card is a dict with number, keeper,
came, marks, force and rules; a plain rule is a tuple (word, value, whom) for a hold rule or a text for any other.
"""

from turnstack.cards import read_card

NAMES = ("a", "b", "c")
OTHER_RULES = ("when come all do each hurt 1 all", "instead leave self do none", "may 1 do one draw 1 mine")
LAYER_WORDS = (("mute",), ("steal",), ("gain", "lack"), ("be",), ("more", "less", "per"))


def whom_text(whom):
    return " ".join(whom_text(part) if isinstance(part, tuple) else str(part) for part in whom)


def random_whom(rng, depth):
    word = rng.choice(("all", "self", "mine", "mark", "mark", "force", "not", "both", "any"))
    if depth == 0 and word in ("not", "both", "any"):
        word = "mark"
    if word == "mark":
        return (word, rng.choice(NAMES))
    if word == "force":
        return (word, rng.randrange(5))
    if word == "not":
        return (word, random_whom(rng, depth - 1))
    if word in ("both", "any"):
        return (word, random_whom(rng, depth - 1), random_whom(rng, depth - 1))
    return (word,)


def plain_fits(whom, sight, number, keeper, thing):
    """The sight is a dict here: number to [keeper, marks, force, mute]."""
    word = whom[0]
    if word == "not":
        return not plain_fits(whom[1], sight, number, keeper, thing)
    if word in ("both", "any"):
        answers = {plain_fits(part, sight, number, keeper, thing) for part in whom[1:]}
        return answers == {True} if word == "both" else True in answers
    is_card = thing >= 0
    return {
        "all": True,
        "self": is_card and thing == number,
        "mine": sight[thing][0] == keeper if is_card else thing + 1 + keeper == 0,
        "mark": is_card and whom[-1] in sight[thing][1],
        "force": is_card and word == "force" and not sight[thing][2] < whom[-1],
    }[word]


def rule_text(rule):
    if isinstance(rule, str):
        return rule
    word, value, whom = rule
    if value is None:
        return f"hold {word} {whom_text(whom)}"
    told = whom_text(value) if isinstance(value, tuple) else value
    return f"hold {word} {told} {whom_text(whom)}"


def card_text(plain):
    marks = ",".join(sorted(plain["marks"])) or "-"
    return " / ".join([f"c 1 {plain['force']} {marks}"] + [rule_text(rule) for rule in plain["rules"]])


def lying_of(plains):
    return [
        (plain["number"], read_card(card_text(plain)), plain["keeper"], plain["came"], tuple(sorted(plain["marks"])))
        for plain in plains
    ]


def row(number, text, keeper, came, marks=None):
    """A lying card with its text's marks, or with others."""
    card = read_card(text)
    return (number, card, keeper, came, card.marks if marks is None else marks)


def random_rule(rng, words, depth):
    word = rng.choice(words)
    value = None
    if word in ("gain", "lack"):
        value = rng.choice(NAMES)
    elif word in ("be", "more", "less"):
        value = rng.randrange(5)
    elif word == "per":
        value = random_whom(rng, depth)
    return (word, value, random_whom(rng, depth))


def random_plains(rng, many, holds, words, depth=2):
    numbers = rng.sample(range(30), many)
    cames = rng.sample(range(-20, 80), many)
    plains = [
        {
            "number": numbers[k],
            "keeper": rng.randrange(3),
            "came": cames[k],
            "marks": {name for name in NAMES if rng.random() < 0.4},
            "force": rng.randrange(5),
            "rules": [],
        }
        for k in range(many)
    ]
    for _ in range(holds):
        free = [plain for plain in plains if len(plain["rules"]) < 3]
        if free:
            rng.choice(free)["rules"].append(random_rule(rng, words, depth))
    for plain in plains:
        if len(plain["rules"]) < 3 and rng.random() < 0.3:
            plain["rules"].insert(rng.randrange(len(plain["rules"]) + 1), rng.choice(OTHER_RULES))
    return plains


class PlainLayers:
    """The layers once more, over dicts and sets, each thing asked anew from the words of the document."""

    def __init__(self, plains):
        self.plains = {plain["number"]: plain for plain in plains}

    def first(self):
        return {n: [p["keeper"], set(p["marks"]), p["force"], False] for n, p in self.plains.items()}

    def changes(self):
        found = []
        for number, plain in self.plains.items():
            for place, rule in enumerate(plain["rules"]):
                if not isinstance(rule, str):
                    layer = [k for k, words in enumerate(LAYER_WORDS) if rule[0] in words][0]
                    found.append((layer, plain["came"], number, place))
        return sorted(found)

    def reach(self, sight, change):
        number, place = change[2:]
        keeper, _, _, mute = sight[number]
        if mute:
            return {}
        word, value, whom = self.plains[number]["rules"][place]
        amount = {"mute": 0, "steal": keeper, "less": -value if word == "less" else None}.get(word, value)
        if word == "per":
            amount = sum(plain_fits(value, sight, number, keeper, n) for n in sight)
        return {n: amount for n in sight if plain_fits(whom, sight, number, keeper, n)}

    def behind(self, sight, change):
        word = self.plains[change[2]]["rules"][change[3]][0]
        then = {n: [keeper, set(marks), force, mute] for n, (keeper, marks, force, mute) in sight.items()}
        for n, amount in self.reach(sight, change).items():
            if word == "mute":
                then[n][3] = True
            elif word == "steal":
                then[n][0] = amount
            elif word == "gain":
                then[n][1].add(amount)
            elif word == "lack":
                then[n][1].discard(amount)
            elif word == "be":
                then[n][2] = amount
            else:
                then[n][2] += amount
        return then

    def leans(self, sight, one, other):
        if one == other or one[0] != other[0]:
            return False
        return self.reach(sight, one) != self.reach(self.behind(sight, other), one)

    def waits(self, sight, some, one):
        """By widening the leanings until they rest, in the place of following rows."""
        led = {(a, b) for a in some for b in some if self.leans(sight, a, b)}
        while True:
            wider = led | {(a, d) for a, b in led for c, d in led if b == c}
            if wider == led:
                break
            led = wider
        return sorted(b for b in set(some) if (one, b) in led and (b, one) not in led)

    def layered(self):
        sight, order = self.first(), []
        for layer in range(5):
            left = [change for change in self.changes() if change[0] == layer]
            while left:
                change = sorted(one for one in left if self.waits(sight, left, one) == [])[0]
                order.append((change, sorted(self.reach(sight, change).items())))
                sight = self.behind(sight, change)
                left.remove(change)
        return told_sight(sight), order


def told_sight(sight):
    return [(n, row[0], tuple(sorted(row[1])), row[2], row[3]) for n, row in sorted(sight.items())]
