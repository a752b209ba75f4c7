"""Names, numbers and whoms: the words that tell which things are meant."""

from turnstack.errors import NoCard

LETTERS = "abcdefghijklmnopqrstuvwxyz"
FIGURES = "0123456789"
MOST_WORDS = 9

# How many parts, whoms themselves, stand behind each word.
PARTS = {"all": 0, "self": 0, "mine": 0, "mark": 0, "force": 0, "not": 1, "both": 2, "any": 2}


def is_name(word):
    """Whether a text is one to eight small letters."""
    return 1 <= len(word) <= 8 and all([sign in LETTERS for sign in word])


def is_number(word):
    """Whether a text is one to three figures, no 0 ahead but in 0 itself."""
    return is_whole(word, 3)


def is_whole(word, most):
    """Whether a text is one to so many figures, no 0 ahead but in 0 itself."""
    if not 1 <= len(word) <= most or not all([sign in FIGURES for sign in word]):
        return False
    return word == "0" or word[0] != "0"


class Words:
    """The words of a text, taken one by one from the first on; NoCard where the next is not what is asked for."""

    def __init__(self, text):
        self.words = text.split(" ")
        self.place = 0

    def take(self):
        if self.place == len(self.words):
            raise NoCard("a word is missing")
        self.place += 1
        return self.words[self.place - 1]

    def take_one_of(self, known):
        word = self.take()
        if word not in known:
            raise NoCard(f"{word!r} can't stand there")
        return word

    def take_name(self):
        word = self.take()
        if not is_name(word):
            raise NoCard(f"{word!r} is no name")
        return word

    def take_number(self):
        word = self.take()
        if not is_number(word):
            raise NoCard(f"{word!r} is no number")
        return int(word)

    def finish(self):
        if self.place < len(self.words):
            raise NoCard("there are words too many")


class Whom:
    """A whom that was read: its first word, the name or number of that word, and the whoms that are its parts."""

    def __init__(self, word, value, parts):
        self.word = word
        self.value = value
        self.parts = parts

    def told(self):
        words = [self.word]
        if self.value is not None:
            words.append(str(self.value))
        words.extend([part.told() for part in self.parts])
        return " ".join(words)

    def fits(self, sight, number, keeper, thing):
        return self.fits_row(row_of(sight, thing), number, keeper, thing)

    def fits_row(self, row, number, keeper, thing):
        """As fits, with the thing's own row of the sight, None for a player: so it is looked for once only."""
        if self.parts:
            return self.fits_parts(row, number, keeper, thing)
        if self.word == "all":
            return True
        if self.word == "self":
            return thing == number
        if row is None:
            return self.word == "mine" and thing == -1 - keeper
        if self.word == "mine":
            return row[1] == keeper
        if self.word == "mark":
            return self.value in row[2]
        return row[3] >= self.value

    def fits_parts(self, row, number, keeper, thing):
        first = self.parts[0].fits_row(row, number, keeper, thing)
        if self.word == "not":
            return not first
        if self.word == "both":
            return first and self.parts[1].fits_row(row, number, keeper, thing)
        return first or self.parts[1].fits_row(row, number, keeper, thing)


def row_of(sight, thing):
    """The tuple of a lying card in a sight; None for what doesn't lie."""
    for row in sight:
        if row[0] == thing:
            return row
    return None


def read_whom(text):
    """The whom that a text tells."""
    if not isinstance(text, str):
        raise NoCard("a whom is told by a text")
    words = Words(text)
    whom = take_whom(words)
    words.finish()
    return whom


def take_whom(words):
    """The whom that stands next among words; it ends where none of its parts is missing."""
    taken = []
    missing = 1
    while missing > 0:
        if len(taken) == MOST_WORDS:
            raise NoCard("a whom has nine words at most")
        word = words.take()
        if word not in PARTS:
            raise NoCard(f"{word!r} is no word of a whom")
        taken.append((word, take_value(words, word)))
        missing += PARTS[word] - 1
    return built(taken)


def take_value(words, word):
    """The name or number that stands behind a word of a whom, None where there is none."""
    if word == "mark":
        return words.take_name()
    if word == "force":
        return words.take_number()
    return None


def built(taken):
    """The whom of words and their values, built from the last one on: so the parts of each are there ahead of it."""
    whoms = []
    for word, value in reversed(taken):
        many = PARTS[word]
        whoms = [Whom(word, value, tuple(whoms[:many]))] + whoms[many:]
    return whoms[0]
