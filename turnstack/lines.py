"""Lines: how deeds are written, read and done again."""

from turnstack.whoms import is_whole

MOST_FIGURES = 60

# How many numbers stand behind the first word of each deed's line; behind those of let stand choices too.
DEED_NUMBERS = {"play": 2, "use": 3, "let": 1, "again": 2}


def line_of(deed):
    """The line of a deed that was done."""
    if deed[0] == "let":
        word, player, choices = deed
        return words_of((word, player) + choices)
    return words_of(deed)


def words_of(values):
    """Words and numbers with blanks between."""
    return " ".join([str(value) for value in values])


def deed_of(line):
    """The deed that a line tells, None where it tells none."""
    words = line.split(" ")
    if words[0] not in DEED_NUMBERS:
        return None
    many = DEED_NUMBERS[words[0]]
    if words[0] != "let":
        return with_numbers(words, many)
    deed = with_numbers(words[:1 + many], many)
    choices = words[1 + many:]
    if deed is None or not all([is_choice(word) for word in choices]):
        return None
    return deed + (tuple([int(word) for word in choices]),)


def with_numbers(words, many):
    """The first of some words with the numbers behind it, None where there aren't just so many of them."""
    numbers = words[1:]
    if len(numbers) != many or not all([is_whole(word, MOST_FIGURES) for word in numbers]):
        return None
    return (words[0],) + tuple([int(word) for word in numbers])


def is_choice(word):
    """Whether a word tells a choice: a whole number, perhaps below 0."""
    if word.startswith("-"):
        return word != "-0" and is_whole(word[1:], MOST_FIGURES)
    return is_whole(word, MOST_FIGURES)


def do_deed(fight, deed):
    """Do a deed that was read; it is refused as the fight refuses it."""
    if deed[0] == "play":
        fight.play(deed[1], deed[2])
    elif deed[0] == "use":
        fight.use(deed[1], deed[2], deed[3])
    elif deed[0] == "let":
        fight.let(deed[1], list(deed[2]))
    else:
        fight.again(deed[1], deed[2])
