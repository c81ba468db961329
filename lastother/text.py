"""Text: lineups and call lists as strings, and back."""

from lastother.basics import is_color
from lastother.calls import check_numbers
from lastother.errors import InvalidTextError
from lastother.lineups import MOST_PEOPLE, check_lineup, is_lineup

# Python itself refuses to turn more than 4300 digits into a number, or back, at once.
BLOCK = 60
BLOCK_SIZE = 10 ** 60


def lineup_to_text(lineup):
    """Return the text of the lineup."""
    check_lineup(lineup)
    return " ".join([digits_of(person) + color for person, color in lineup])


def lineup_from_text(text):
    """Return the lineup with this text."""
    check_string(text)
    words = text.split(" ")
    lineup = []
    for index, word in enumerate(words):
        person = person_of(word[:-1])
        if person is None or not is_color(word[-1:]) or person in [known for known, _ in lineup]:
            raise InvalidTextError(index)
        lineup.append((person, word[-1:]))
    if not is_lineup(lineup):
        raise InvalidTextError(len(words))
    return lineup


def calls_to_text(calls):
    """Return the text of the list of integers from 0 on."""
    check_numbers(calls)
    return " ".join([digits_of(number) for number in calls])


def calls_from_text(text):
    """Return the list of integers with this text."""
    check_string(text)
    # The text of the empty list has no words, but splitting it gives an empty one.
    words = text.split(" ") if text != "" else []
    calls = []
    for index, word in enumerate(words):
        if not is_digits(word):
            raise InvalidTextError(index)
        calls.append(number_of(word))
    return calls


def check_string(value):
    """Raise InvalidTextError if the value is not a string."""
    if type(value) is not str:
        raise InvalidTextError(None)


def is_digits(word):
    """Return whether the word is a number in decimal digits without leading zeros."""
    # Digits beyond ASCII are digits for isdigit, too.
    return word.isascii() and word.isdigit() and (word == "0" or word[0] != "0")


def person_of(word):
    """Return the person that the word tells, or None if a lineup has no such person."""
    if not is_digits(word) or number_of(word) >= MOST_PEOPLE:
        return None
    return number_of(word)


def number_of(word):
    """Return the number that the digits tell."""
    head = len(word) % BLOCK
    number = int("0" + word[:head])
    for start in range(head, len(word), BLOCK):
        number = number * BLOCK_SIZE + int(word[start:start + BLOCK])
    return number


def digits_of(number):
    """Return the decimal digits of the number, without leading zeros."""
    rest = number
    blocks = ""
    while rest >= BLOCK_SIZE:
        rest, last = divmod(rest, BLOCK_SIZE)
        blocks = str(last).zfill(BLOCK) + blocks
    return str(rest) + blocks
