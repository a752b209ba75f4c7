"""What several tests use: cards made of plain data, tables and fights; the layers and the fights told a second time.

A plain whom is a nested tuple: ("both", ("mine",), ("mark", "grey")). A plain card is a dict with number, keeper,
came, marks, force and rules; a plain rule is a tuple (word, value, whom) for a hold rule or a text for any other.
"""

import random

from turnstack.cards import read_card, show_card
from turnstack.layers import layered

NAMES = ("a", "b", "c")
OTHER_RULES = ("when come all do each hurt 1 all", "instead leave self do none", "may 1 do one draw 1 mine")
LAYER_WORDS = (("mute",), ("steal",), ("gain", "lack"), ("be",), ("more", "less", "per"))


def whom_text(whom):
    return " ".join(whom_text(part) if isinstance(part, tuple) else str(part) for part in whom)


def random_whom(rng, depth):
    word = rng.choice(("all", "self", "mine", "mark", "mark", "force", "not", "both", "any"))
    if depth == 0 and word in ("not", "both", "any"):
        word = "mark"
    if word == "mark":
        return (word, rng.choice(NAMES))
    if word == "force":
        return (word, rng.randrange(5))
    if word == "not":
        return (word, random_whom(rng, depth - 1))
    if word in ("both", "any"):
        return (word, random_whom(rng, depth - 1), random_whom(rng, depth - 1))
    return (word,)


def plain_fits(whom, sight, number, keeper, thing):
    """The sight is a dict here: number to [keeper, marks, force, mute]."""
    word = whom[0]
    if word == "not":
        return not plain_fits(whom[1], sight, number, keeper, thing)
    if word in ("both", "any"):
        answers = {plain_fits(part, sight, number, keeper, thing) for part in whom[1:]}
        return answers == {True} if word == "both" else True in answers
    is_card = thing >= 0
    return {
        "all": True,
        "self": is_card and thing == number,
        "mine": sight[thing][0] == keeper if is_card else thing + 1 + keeper == 0,
        "mark": is_card and whom[-1] in sight[thing][1],
        "force": is_card and word == "force" and not sight[thing][2] < whom[-1],
    }[word]


def rule_text(rule):
    if isinstance(rule, str):
        return rule
    word, value, whom = rule
    if value is None:
        return f"hold {word} {whom_text(whom)}"
    told = whom_text(value) if isinstance(value, tuple) else value
    return f"hold {word} {told} {whom_text(whom)}"


def card_text(plain):
    marks = ",".join(sorted(plain["marks"])) or "-"
    return " / ".join([f"c 1 {plain['force']} {marks}"] + [rule_text(rule) for rule in plain["rules"]])


def lying_of(plains):
    return [
        (plain["number"], read_card(card_text(plain)), plain["keeper"], plain["came"], tuple(sorted(plain["marks"])))
        for plain in plains
    ]


def row(number, text, keeper, came, marks=None):
    """A lying card with its text's marks, or with others."""
    card = read_card(text)
    return (number, card, keeper, came, card.marks if marks is None else marks)


def random_rule(rng, words, depth):
    word = rng.choice(words)
    value = None
    if word in ("gain", "lack"):
        value = rng.choice(NAMES)
    elif word in ("be", "more", "less"):
        value = rng.randrange(5)
    elif word == "per":
        value = random_whom(rng, depth)
    return (word, value, random_whom(rng, depth))


def random_plains(rng, many, holds, words, depth=2):
    numbers = rng.sample(range(30), many)
    cames = rng.sample(range(-20, 80), many)
    plains = [
        {
            "number": numbers[k],
            "keeper": rng.randrange(3),
            "came": cames[k],
            "marks": {name for name in NAMES if rng.random() < 0.4},
            "force": rng.randrange(5),
            "rules": [],
        }
        for k in range(many)
    ]
    for _ in range(holds):
        free = [plain for plain in plains if len(plain["rules"]) < 3]
        if free:
            rng.choice(free)["rules"].append(random_rule(rng, words, depth))
    for plain in plains:
        if len(plain["rules"]) < 3 and rng.random() < 0.3:
            plain["rules"].insert(rng.randrange(len(plain["rules"]) + 1), rng.choice(OTHER_RULES))
    return plains


class PlainLayers:
    """The layers once more, over dicts and sets, each thing asked anew from the words of the document."""

    def __init__(self, plains):
        self.plains = {plain["number"]: plain for plain in plains}

    def first(self):
        return {n: [p["keeper"], set(p["marks"]), p["force"], False] for n, p in self.plains.items()}

    def changes(self):
        found = []
        for number, plain in self.plains.items():
            for place, rule in enumerate(plain["rules"]):
                if not isinstance(rule, str):
                    layer = [k for k, words in enumerate(LAYER_WORDS) if rule[0] in words][0]
                    found.append((layer, plain["came"], number, place))
        return sorted(found)

    def reach(self, sight, change):
        number, place = change[2:]
        keeper, _, _, mute = sight[number]
        if mute:
            return {}
        word, value, whom = self.plains[number]["rules"][place]
        amount = {"mute": 0, "steal": keeper, "less": -value if word == "less" else None}.get(word, value)
        if word == "per":
            amount = sum(plain_fits(value, sight, number, keeper, n) for n in sight)
        return {n: amount for n in sight if plain_fits(whom, sight, number, keeper, n)}

    def behind(self, sight, change):
        word = self.plains[change[2]]["rules"][change[3]][0]
        then = {n: [keeper, set(marks), force, mute] for n, (keeper, marks, force, mute) in sight.items()}
        for n, amount in self.reach(sight, change).items():
            if word == "mute":
                then[n][3] = True
            elif word == "steal":
                then[n][0] = amount
            elif word == "gain":
                then[n][1].add(amount)
            elif word == "lack":
                then[n][1].discard(amount)
            elif word == "be":
                then[n][2] = amount
            else:
                then[n][2] += amount
        return then

    def leans(self, sight, one, other):
        if one == other or one[0] != other[0]:
            return False
        return self.reach(sight, one) != self.reach(self.behind(sight, other), one)

    def waits(self, sight, some, one):
        """By widening the leanings until they rest, in the place of following rows."""
        led = {(a, b) for a in some for b in some if self.leans(sight, a, b)}
        while True:
            wider = led | {(a, d) for a, b in led for c, d in led if b == c}
            if wider == led:
                break
            led = wider
        return sorted(b for b in set(some) if (one, b) in led and (b, one) not in led)

    def layered(self):
        sight, order = self.first(), []
        for layer in range(5):
            left = [change for change in self.changes() if change[0] == layer]
            while left:
                change = sorted(one for one in left if self.waits(sight, left, one) == [])[0]
                order.append((change, sorted(self.reach(sight, change).items())))
                sight = self.behind(sight, change)
                left.remove(change)
        return told_sight(sight), order


def told_sight(sight):
    return [(n, row[0], tuple(sorted(row[1])), row[2], row[3]) for n, row in sorted(sight.items())]


# Tables and fights.

TABLE_PARTS = ("points", "scores", "gone", "decks", "hands", "lying", "heap", "marks", "wounds")
STAND_PARTS = ("table", "pile", "turn", "word", "passes", "coins", "over")
PLAYER_KINDS = ("lose", "score", "draw")
CARD_KINDS = ("leave", "hurt", "gain", "lack")


def table_of(cards, players=2, **parts):
    """A table where nothing has happened and no card is anywhere, but for the parts handed in."""
    first = {
        "points": (20,) * players, "scores": (0,) * players, "gone": (False,) * players, "decks": ((),) * players,
        "hands": ((),) * players, "lying": (), "heap": (), "marks": tuple(card.marks for card in cards),
        "wounds": (0,) * len(cards),
    }
    return tuple({**first, **parts}[name] for name in TABLE_PARTS)


def all_lying(texts, owners, players=2, **parts):
    """Cards that lie in the order of their numbers: (cards, owners, table)."""
    cards = [read_card(text) for text in texts]
    return cards, list(owners), table_of(cards, players, **{"lying": tuple(range(len(cards))), **parts})


def part(table, name):
    return table[TABLE_PARTS.index(name)]


def altered(table, **parts):
    return tuple(parts.get(name, value) for name, value in zip(TABLE_PARTS, table))


def of_stand(fight, name):
    """A part of a fight's stand or of its table."""
    if name in STAND_PARTS:
        return fight.stand()[STAND_PARTS.index(name)]
    return part(fight.stand()[0], name)


def all_let(fight, choices=None):
    """All players who aren't gone let go, so the top of the pile is done or the next turn begins."""
    many = of_stand(fight, "gone").count(False) - of_stand(fight, "passes")
    for left in range(many, 0, -1):
        fight.let(of_stand(fight, "word"), choices if left == 1 else None)


def come(fight, number, choices=None):
    """The player who has the turn plays a card, and it comes."""
    fight.play(of_stand(fight, "turn"), number)
    all_let(fight, choices)


def come_in_turns(fight, numbers):
    """Cards come, one in each turn from this one on; the turn of the last one goes on."""
    for number in numbers[:-1]:
        come(fight, number)
        all_let(fight)
    come(fight, numbers[-1])


def emptied(fight):
    """The pile is done from the top on until nothing waits."""
    while of_stand(fight, "pile"):
        all_let(fight)


def plain_cards(cards):
    return [(show_card(card), card.name, card.cost, card.force, card.marks, len(card.rules)) for card in cards]


def take(ways, choices):
    """A way of so many, by a list of choices that is changed."""
    return choices.pop(0) % ways if ways > 1 and choices else 0


class PlainTable:
    """A table once more, changed in place, each thing asked anew from the words of the document."""

    def __init__(self, cards, owners, table):
        points, scores, gone, decks, hands, lying, heap, marks, wounds = table
        self.cards, self.owners = cards, owners
        self.points, self.scores, self.gone = list(points), list(scores), list(gone)
        self.decks, self.hands = [list(deck) for deck in decks], [set(hand) for hand in hands]
        self.lying, self.heap = list(lying), set(heap)
        self.marks, self.wounds = [set(names) for names in marks], list(wounds)

    def told(self):
        return (
            tuple(self.points), tuple(self.scores), tuple(self.gone), tuple(tuple(deck) for deck in self.decks),
            tuple(tuple(sorted(hand)) for hand in self.hands), tuple(self.lying), tuple(sorted(self.heap)),
            tuple(tuple(sorted(names)) for names in self.marks), tuple(self.wounds),
        )

    def sight(self):
        return layered([(n, self.cards[n], self.owners[n], came, tuple(sorted(self.marks[n])))
                        for came, n in enumerate(self.lying)])[0]

    def meant(self, sort, happening):
        """The rules of a sort that mean a happening: (keeper, number, place), as they came."""
        sight = self.sight()
        keepers = {row[0]: row[1] for row in sight}
        return [
            (keepers[n], n, place)
            for n in self.lying
            for place, rule in enumerate(self.cards[n].rules)
            if rule[:2] == (sort, happening[0]) and rule[2].fits(sight, n, keepers[n], happening[1])
        ]

    def to_heap(self, number):
        self.lying = [n for n in self.lying if n != number]
        self.heap.add(number)
        self.anew(number)

    def anew(self, number):
        self.marks[number], self.wounds[number] = set(self.cards[number].marks), 0

    def goes_by(self, happening):
        kind, thing, _ = happening
        return self.gone[-thing - 1] if thing < 0 else kind != "come" and thing not in self.lying

    def happen(self, happening):
        """What is called is given back."""
        kind, thing, amount = happening
        if self.goes_by(happening):
            return []
        ahead = self.meant("when", happening) if kind == "leave" else None
        if kind == "come":
            self.lying.append(thing)
            self.anew(thing)
        elif kind == "leave":
            self.to_heap(thing)
        elif kind == "hurt":
            self.wounds[thing] += amount
        elif kind == "gain":
            self.marks[thing].add(amount)
        elif kind == "lack":
            self.marks[thing].discard(amount)
        elif kind == "lose":
            self.points[-thing - 1] -= amount
        elif kind == "score":
            self.scores[-thing - 1] += amount
        else:
            for _ in range(min(amount, len(self.decks[-thing - 1]))):
                self.hands[-thing - 1].add(self.decks[-thing - 1].pop(0))
        return self.meant("when", happening) if ahead is None else ahead

    def put(self, happening, choices):
        trail, used = [], []
        while happening is not None:
            ways = [way for way in self.meant("instead", happening) if way[1:] not in used]
            if not ways:
                break
            kind, thing, amount = happening
            player = {row[0]: row[1] for row in self.sight()}[thing] if thing >= 0 else -thing - 1
            _, number, place = ways[take(len(ways), choices)]
            used.append((number, place))
            word, value = self.cards[number].rules[place][3:]
            happening = {
                "none": lambda: None,
                "here": lambda: (kind, number, amount),
                "less": lambda: (kind, thing, amount - value if amount > value else 0),
                "more": lambda: (kind, thing, amount + value),
                "as": lambda: (value, thing, amount),
            }[word]()
            trail.append((player, number, place, happening))
        return trail, happening

    def put_all(self, happenings, choices):
        log, calls = [], []
        for happening in happenings:
            if happening[1] < 0 or happening[1] in self.lying:
                trail, came = self.put(happening, choices)
                log.append((happening, trail, came))
                calls += [] if came is None else self.happen(came)
        return log, calls

    def do(self, deed, number, keeper, choices):
        each, kind, amount, whom = deed
        sight = self.sight()
        things = sorted(self.lying)
        if kind in PLAYER_KINDS:
            things = [-1 - p for p, gone in enumerate(self.gone) if not gone]
        ways = [thing for thing in things if whom.fits(sight, number, keeper, thing)]
        if each == "one":
            ways = ways and [ways[take(len(ways), choices)]]
        return self.put_all([(kind, thing, amount) for thing in ways], choices)

    def look(self, choices):
        log, calls = [], []
        while True:
            ahead = self.told()
            going = [p for p, points in enumerate(self.points) if points < 1 and not self.gone[p]]
            for number in [n for n in self.lying if self.owners[n] in going]:
                self.to_heap(number)
            for p in going:
                self.gone[p] = True
            leaving = [("leave", row[0], 0) for row in self.sight() if not self.wounds[row[0]] < row[3]]
            more_log, more_calls = self.put_all(leaving, choices)
            log += more_log
            calls += more_calls
            if self.told() == ahead:
                return log, [one for one in calls if not self.gone[one[0]]]


class PlainFight:
    """A whole fight once more, by PlainTable; the stands are kept as they were told."""

    def __init__(self, cards, owners, table):
        self.table = PlainTable(cards, owners, table)
        self.pile, self.turn, self.word, self.passes, self.over = [], 0, 0, 0, None
        self.coins = [0] * len(self.table.points)
        self.coins[0] = 5
        self.log = []

    def stand(self):
        return (self.table.told(), tuple(self.pile), self.turn, self.word, self.passes, tuple(self.coins), self.over)

    def reason(self, deed):
        player = deed[1]
        if self.over is not None:
            return "over"
        if self.word != player:
            return "word"
        if deed[0] == "let":
            return None
        number = deed[2]
        if deed[0] == "play":
            if self.turn != player or self.pile:
                return "turn"
            if number not in self.table.hands[player]:
                return "hand"
            cost = self.table.cards[number].cost
        else:
            if (number, player) not in [row[:2] for row in self.table.sight()]:
                return "card"
            mays = {place: rule for place, rule in enumerate(self.table.cards[number].rules) if rule[0] == "may"}
            if deed[3] not in mays:
                return "rule"
            cost = mays[deed[3]][1]
        return "coins" if cost > self.coins[player] else None

    def may_do(self, player):
        numbers = range(len(self.table.cards))
        every = [("play", player, n) for n in numbers]
        every += [("use", player, n, place) for n in numbers for place in range(3)] + [("let", player)]
        return [deed[:1] + deed[2:] for deed in every if self.reason(deed) is None]

    def play(self, player, number):
        self.coins[player] -= self.table.cards[number].cost
        self.table.hands[player].remove(number)
        self.pile.append(("card", player, number, 0))
        self.passes, self.log = 0, []

    def use(self, player, number, place):
        self.coins[player] -= self.table.cards[number].rules[place][1]
        self.passes, self.log = 0, []
        if len(self.pile) == 40:
            self.over = ("full",)
        else:
            self.pile.append(("rule", player, number, place))

    def after(self, player):
        """The players behind one, himself last, without those who are gone."""
        many = len(self.table.gone)
        return [p % many for p in range(player + 1, player + many + 1) if not self.table.gone[p % many]]

    def let(self, choices):
        choices = list(choices)
        self.passes += 1
        if self.passes < self.table.gone.count(False):
            self.word, self.log = self.after(self.word)[0], []
            return
        self.passes = 0
        if self.pile:
            sort, player, number, place = self.pile.pop()
            if sort == "card":
                happening = ("come", number, 0)
                log, calls = [(happening, [], happening)], self.table.happen(happening)
            else:
                log, calls = self.table.do(self.table.cards[number].rules[place][-1], number, player, choices)
        else:
            self.turn = self.after(self.turn)[0]
            self.coins[self.turn] = 5
            log, calls = self.table.put_all([("draw", -1 - self.turn, 1)], choices)
        more_log, more_calls = self.table.look(choices)
        self.log = log + more_log
        self.settle(calls + more_calls, choices)

    def settle(self, calls, choices):
        gone = self.table.gone
        for sort, player, number, _ in self.pile:
            if gone[player] and sort == "card":
                self.table.to_heap(number)
        self.pile = [one for one in self.pile if not gone[one[1]]]
        players = self.after(self.turn - 1)
        full = False
        for p in players:
            own = [one for one in calls if one[0] == p]
            while own:
                one = own.pop(take(len(own), choices))
                if len(self.pile) < 40:
                    self.pile.append(("rule",) + one)
                else:
                    full = True
        self.word = players[0] if players else self.word
        if len(players) < 2:
            self.over = ("won", players[0]) if players else ("none",)
        elif full:
            self.over = ("full",)


def plain_of(fight):
    """A fight told a second time, from the stand on at which it is."""
    table, pile, turn, word, passes, coins, over = fight.stand()
    plain = PlainFight(fight.cards(), fight.owners(), table)
    plain.pile, plain.turn, plain.word, plain.passes = list(pile), turn, word, passes
    plain.coins, plain.over = list(coins), over
    return plain


def unscored(stand):
    """A stand without its scores."""
    return stand[0][:1] + stand[0][2:], stand[1:]


def whole(fight):
    """All that a fight tells of itself."""
    return (fight.stand(), fight.log(), fight.many(), fight.owners(), plain_cards(fight.cards()),
            [fight.may_do(player) for player in range(4)])


def do(fight, deed):
    """A deed as a tuple: the method's name and what is handed to it."""
    getattr(fight, deed[0])(*deed[1:])


def random_deed(rng, fight):
    """A deed that the one who has the word may do; None where he may do nothing."""
    word = of_stand(fight, "word")
    deeds = fight.may_do(word)
    if not deeds:
        return None
    others = [deed for deed in deeds if deed != ("let",)]
    if others and rng.random() < (0.7 if len(of_stand(fight, "pile")) < 3 else 0.15):
        deed = rng.choice(others)
        return (deed[0], word) + deed[1:]
    return rng.choice((("let", word), ("let", word, random_choices(rng))))


def fight_whom(rng):
    return whom_text(random_whom(rng, rng.choice((0, 0, 1, 2))))


def fight_deed(rng):
    kind = rng.choice(CARD_KINDS + PLAYER_KINDS)
    words = [rng.choice(("each", "one")), kind]
    if kind in ("gain", "lack"):
        words.append(rng.choice(NAMES))
    elif kind != "leave":
        words.append(str(rng.choice((0, 1, 1, 2, 3, 6, 12))))
    return " ".join(words + [fight_whom(rng)])


def fight_turn(rng, kind):
    words = ["none"]
    words += ["here"] * 2 if kind in CARD_KINDS else ["as " + rng.choice(PLAYER_KINDS)] * 2
    if kind not in ("leave", "gain", "lack"):
        words += [f"less {rng.randrange(4)}", f"more {rng.randrange(4)}"]
    return rng.choice(words)


def fight_rule(rng, sorts):
    sort = rng.choice(sorts)
    if sort == "hold":
        return rule_text(random_rule(rng, ("mute", "steal", "gain", "lack", "be", "more", "less", "per"), 1))
    if sort == "may":
        return f"may {rng.choice((0, 0, 1, 2))} do {fight_deed(rng)}"
    if sort == "when":
        kind = rng.choice(("come",) + CARD_KINDS + PLAYER_KINDS)
        return f"when {kind} {fight_whom(rng)} do {fight_deed(rng)}"
    kind = rng.choice(CARD_KINDS + PLAYER_KINDS)
    return f"instead {kind} {fight_whom(rng)} do {fight_turn(rng, kind)}"


def fight_card(rng, sorts=("when", "when", "instead", "instead", "may")):
    marks = ",".join(name for name in NAMES if rng.random() < 0.4) or "-"
    rules = [fight_rule(rng, sorts) for _ in range(rng.randrange(4))]
    return " / ".join([f"c {rng.choice((0, 0, 1, 2, 6))} {rng.choice((0, 1, 2, 3, 5, 9))} {marks}"] + rules)


def random_decks(rng, players):
    """Decks with few hold rules: at most eight of them are let in."""
    most = 16 // players
    sizes = [rng.choice((most, most, rng.randrange(most + 1))) for _ in range(players)]
    decks = [[fight_card(rng) for _ in range(size)] for size in sizes]
    holds = rng.randrange(9)
    for deck in decks:
        for k in range(len(deck)):
            if holds and rng.random() < 0.4:
                holds -= 1
                deck[k] = " / ".join(deck[k].split(" / ")[:3] + [fight_rule(rng, ("hold",))])
    return decks


def random_table(rng):
    """Cards, owners and a table on which all is anywhere."""
    players = rng.randrange(2, 5)
    texts = [text for deck in random_decks(rng, players) for text in deck]
    cards = [read_card(text) for text in texts]
    owners = sorted(rng.randrange(players) for _ in cards)
    places = [rng.choice(("deck", "hand", "heap", "lying", "lying", "lying", "pile")) for _ in cards]
    numbers = list(range(len(cards)))
    rng.shuffle(numbers)

    def at(place, owner=None):
        return tuple(n for n in numbers if places[n] == place and owner in (None, owners[n]))

    lying = at("lying")
    changed = [n in lying and rng.random() < 0.5 for n in range(len(cards))]
    table = table_of(
        cards, players,
        points=tuple(rng.choice((20, 20, 3, 1, 0, -2)) for _ in range(players)),
        scores=tuple(rng.choice((0, 0, 7)) for _ in range(players)),
        gone=tuple(rng.random() < 0.15 for _ in range(players)),
        decks=tuple(at("deck", p) for p in range(players)),
        hands=tuple(tuple(sorted(at("hand", p))) for p in range(players)),
        lying=lying, heap=tuple(sorted(at("heap"))),
        marks=tuple(tuple(n for n in NAMES if rng.random() < 0.5) if new else card.marks
                    for new, card in zip(changed, cards)),
        wounds=tuple(rng.choice((0, 0, 1, 2, 4)) if n in lying else 0 for n in range(len(cards))),
    )
    return cards, owners, table


def random_choices(rng):
    return [rng.choice((0, 1, 2, 3, -1, -4, 10 ** 59 + rng.randrange(20))) for _ in range(rng.randrange(7))]


def seeded(many, start=0):
    """A row of sources of chance that are the same each time."""
    return [random.Random(start + k) for k in range(many)]
