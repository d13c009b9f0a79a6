"""Words, the integers that a disk holds, and names, which are written as words."""

from laminae.errors import BadName

ALPHABET = "abcdefghijklmnopqrstuvwxyz0123456789._-"
BASE = 40
LONGEST_NAME = 11


def is_word(value):
    """Tell whether a value of any kind is a word."""
    # Python counts True and False as integers; a disk does not.
    return isinstance(value, int) and not isinstance(value, bool) and value >= 0


def are_words(values, many):
    """Tell whether a value of any kind is a list of exactly so many words."""
    if not isinstance(values, list) or len(values) != many:
        return False
    return all(is_word(value) for value in values)


def is_name(name):
    """Tell whether a value of any kind is a name."""
    if not isinstance(name, str) or not 1 <= len(name) <= LONGEST_NAME:
        return False
    return all(letter in ALPHABET for letter in name) and any(letter != "." for letter in name)


def name_word(name):
    """Return the word of a name."""
    if not is_name(name):
        raise BadName()
    word = 0
    for letter in name:
        word = word * BASE + ALPHABET.index(letter) + 1
    for _ in range(LONGEST_NAME - len(name)):
        word = word * BASE
    return word


def word_name(word):
    """Return the name that has this word."""
    if not is_word(word):
        raise BadName()
    name = ""
    rest = word
    for _ in range(LONGEST_NAME):
        rest, digit = divmod(rest, BASE)
        if digit > 0:
            name = ALPHABET[digit - 1] + name
    # A word that is too great, or has a digit 0 before another digit, is not the word of what was read.
    if name_word(name) != word:
        raise BadName()
    return name
