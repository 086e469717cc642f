"""What the words of a text, and the values of arguments, can stand for, and SETs of them."""

LETTERS = "abcdefghijklmnopqrstuvwxyz"
DIGITS = "0123456789"
LONGEST_NAME = 8


def is_name(value):
    """Whether a value of any kind is a NAME."""
    if not isinstance(value, str) or not 1 <= len(value) <= LONGEST_NAME:
        return False
    return all([letter in LETTERS for letter in value])


def is_numeral(word):
    """Whether a word is a number from 0 as texts write it."""
    if word == "" or not all([digit in DIGITS for digit in word]):
        return False
    return word == "0" or word[0] != "0"


def is_ascending(words):
    """Whether these words are NAMEs that ascend."""
    if not all([is_name(word) for word in words]):
        return False
    return all([one < other for one, other in zip(words, words[1:])])


def name_set(names):
    """The SET of these NAMEs, which may come in any order and several times."""
    found = {name: True for name in names}
    return tuple(sorted([str(name) for name in found]))


def pair_set(pairs):
    """The SET of these pairs of NAMEs, in any order and several times."""
    # A blank stands ahead of all letters, so these texts ascend as the pairs do.
    found = {f"{one} {two}": (one, two) for one, two in pairs}
    return tuple([found[text] for text in sorted([str(text) for text in found])])
