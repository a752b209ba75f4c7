"""A fight: the stand that its players' deeds lead to, with all deeds that were done."""

from turnstack.cards import copied
from turnstack.errors import NotNow, NotSame
from turnstack.reasons import against_playing, against_speaking, against_using, allowed
from turnstack.stands import first_stand, grown, let_go, played, same_but_scores, used
from turnstack.table import begun, sight_of


class Fight:
    """A fight with its players' decks, each a list of cards' texts."""

    def __init__(self, decks):
        cards, owners, table = begun(decks)
        self.all_cards = cards
        self.all_owners = owners
        self.now = first_stand(table)
        self.last_log = []
        # A pair for each deed that was done: the deed, and the stand ahead of it.
        self.past = []

    def play(self, player, number):
        why = against_playing(self.all_cards, self.now, player, number)
        if why is not None:
            raise NotNow(why, number)
        self.keep(("play", player, number), played(self.all_cards, self.now, player, number), [])

    def use(self, player, number, place):
        why = against_using(self.all_cards, self.sight_now(), self.now, player, number, place)
        if why is not None:
            raise NotNow(why, number)
        self.keep(("use", player, number, place), used(self.all_cards, self.now, player, number, place), [])

    def let(self, player, choices=None):
        why = against_speaking(self.now, player)
        if why is not None:
            raise NotNow(why, None)
        taken = [] if choices is None else list(choices)
        stand, log = let_go(self.all_cards, self.all_owners, self.now, taken)
        self.keep(("let", player, tuple(taken)), stand, log)

    def again(self, number, many):
        """Do the last deeds, so many of them, many times more."""
        if not 1 <= number <= len(self.past) or many < 0:
            raise NotSame("there are no such deeds to do again")
        ahead = self.past[-number][1]
        repeats = [deed for deed, stand in self.past[-number:] if deed[0] == "again"]
        if repeats or not same_but_scores(ahead, self.now):
            raise NotSame("these deeds don't lead back to the stand ahead of them")
        self.keep(("again", number, many), grown(ahead, self.now, many), [])

    def back(self, number):
        """Take the last deeds back, so many of them."""
        if not 0 <= number <= len(self.past):
            raise NotSame("there are no such deeds to take back")
        staying = len(self.past) - number
        if number > 0:
            self.now = self.past[staying][1]
        self.past = self.past[:staying]
        self.last_log = []

    def keep(self, deed, stand, log):
        """Keep a deed that was done, with the stand and the log that it led to."""
        self.past.append((deed, self.now))
        self.now = stand
        self.last_log = log

    def may_do(self, player):
        return allowed(self.all_cards, self.sight_now(), self.now, player)

    def sight_now(self):
        return sight_of(self.all_cards, self.all_owners, self.now[0])

    def stand(self):
        return self.now

    def log(self):
        # A trail is a list: the asker gets one of his own.
        return [(happening, list(trail), came) for happening, trail, came in self.last_log]

    def cards(self):
        return [copied(card) for card in self.all_cards]

    def owners(self):
        return list(self.all_owners)

    def many(self):
        return len(self.past)

    def deeds(self):
        """The deeds that were done and not taken back, each as a tuple that begins with its word."""
        return [deed for deed, stand in self.past]
