"""Cards: read from their texts and told again."""

from turnstack.errors import NoCard
from turnstack.whoms import Whom, Words, is_name, take_whom

MOST_RULES = 3
SORTS = ("hold", "when", "instead", "may")
CHANGES = ("mute", "steal", "gain", "lack", "be", "more", "less", "per")
WHEN_KINDS = ("come", "leave", "hurt", "gain", "lack", "lose", "score", "draw")
DEED_KINDS = ("leave", "hurt", "gain", "lack", "lose", "score", "draw")
PLAYER_KINDS = ("lose", "score", "draw")

# The turns that each kind of happening has.
TURNS = {
    "leave": ("none", "here"),
    "hurt": ("none", "here", "less", "more"),
    "gain": ("none", "here"),
    "lack": ("none", "here"),
    "lose": ("none", "less", "more", "as"),
    "score": ("none", "less", "more", "as"),
    "draw": ("none", "less", "more", "as"),
}


class Card:
    """A card that was read."""

    def __init__(self, name, cost, force, marks, rules):
        self.name = name
        self.cost = cost
        self.force = force
        self.marks = marks
        self.rules = rules

    def __eq__(self, other):
        # Cards are told as copies: two that have the same text are the same card to whoever compares them.
        return isinstance(other, Card) and show_card(self) == show_card(other)


def copied(card):
    """A card of the same values, so that who changes it changes no other one."""
    return Card(card.name, card.cost, card.force, card.marks, card.rules)


def read_card(text):
    """The card that a text tells."""
    if not isinstance(text, str):
        raise NoCard("a card is told by a text")
    texts = text.split(" / ")
    if len(texts) > 1 + MOST_RULES:
        raise NoCard("a card has three rules at most")
    words = Words(texts[0])
    name = words.take_name()
    cost = words.take_number()
    force = words.take_number()
    marks = read_marks(words.take())
    words.finish()
    return Card(name, cost, force, marks, tuple([read_rule(rule) for rule in texts[1:]]))


def read_marks(word):
    """The marks that one word tells."""
    if word == "-":
        return ()
    marks = word.split(",")
    if not all([is_name(mark) for mark in marks]):
        raise NoCard(f"{word!r} has a mark that is no name")
    if marks != sorted(set(marks)):
        raise NoCard(f"{word!r} has marks that don't rise")
    return tuple(marks)


def read_rule(text):
    """The tuple of the rule that a text tells."""
    words = Words(text)
    first = words.take_one_of(SORTS)
    if first == "hold":
        rule = take_hold(words)
    elif first == "when":
        rule = take_when(words)
    elif first == "instead":
        rule = take_instead(words)
    else:
        rule = take_may(words)
    words.finish()
    return rule


def take_hold(words):
    word = words.take_one_of(CHANGES)
    value = take_change_value(words, word)
    whom = take_whom(words)
    return ("hold", word, value, whom)


def take_change_value(words, word):
    if word in ("gain", "lack"):
        return words.take_name()
    if word in ("be", "more", "less"):
        return words.take_number()
    if word == "per":
        return take_whom(words)
    return None


def take_when(words):
    kind = words.take_one_of(WHEN_KINDS)
    whom = take_whom(words)
    words.take_one_of(("do",))
    return ("when", kind, whom, take_deed(words))


def take_instead(words):
    kind = words.take_one_of(DEED_KINDS)
    whom = take_whom(words)
    words.take_one_of(("do",))
    word = words.take_one_of(TURNS[kind])
    return ("instead", kind, whom, word, take_turn_value(words, word))


def take_turn_value(words, word):
    if word in ("less", "more"):
        return words.take_number()
    if word == "as":
        return words.take_one_of(PLAYER_KINDS)
    return None


def take_may(words):
    cost = words.take_number()
    words.take_one_of(("do",))
    return ("may", cost, take_deed(words))


def take_deed(words):
    each = words.take_one_of(("each", "one"))
    kind = words.take_one_of(DEED_KINDS)
    amount = take_amount(words, kind)
    whom = take_whom(words)
    return (each, kind, amount, whom)


def take_amount(words, kind):
    if kind == "leave":
        return 0
    if kind in ("gain", "lack"):
        return words.take_name()
    return words.take_number()


def show_card(card):
    """The text that a card was read from."""
    head = " ".join([card.name, str(card.cost), str(card.force), show_marks(card.marks)])
    return " / ".join([head] + [show_rule(rule) for rule in card.rules])


def show_marks(marks):
    """The one word that tells marks."""
    return ",".join(marks) if marks else "-"


def show_rule(rule):
    if rule[0] == "hold":
        words = ["hold", rule[1]] + show_value(rule[2]) + [rule[3].told()]
    elif rule[0] == "when":
        words = ["when", rule[1], rule[2].told(), "do", show_deed(rule[3])]
    elif rule[0] == "instead":
        words = ["instead", rule[1], rule[2].told(), "do", rule[3]] + show_value(rule[4])
    else:
        words = ["may", str(rule[1]), "do", show_deed(rule[2])]
    return " ".join(words)


def show_value(value):
    """The words of a rule's value, none where it has no value."""
    if value is None:
        return []
    if isinstance(value, Whom):
        return [value.told()]
    return [str(value)]


def show_deed(deed):
    # A leave has the amount 0 though no word tells it.
    amount = [] if deed[1] == "leave" else [str(deed[2])]
    return " ".join([deed[0], deed[1]] + amount + [deed[3].told()])
