"""The refusals of the program."""


class FightError(ValueError):
    """Any refusal."""


class NoCard(FightError):
    """A text that is no card's or no whom's, or a card that isn't there."""


class NotNow(FightError):
    """A deed that a reason stands against."""

    def __init__(self, why, card):
        self.why = why
        self.card = card


class NotSame(FightError):
    """Deeds that can't be done again or taken back."""


class NoFight(FightError):
    """A text or decks that no fight can be begun with."""


class NoRow(FightError):
    """A row that the desk doesn't know."""
