"""What the words of a text, and the values of arguments, can stand for."""

LETTERS = "abcdefghijklmnopqrstuvwxyz"
DIGITS = "0123456789"
LONGEST_NAME = 8


def is_name(value):
    """Whether a value of any kind is a NAME."""
    if not isinstance(value, str) or not 1 <= len(value) <= LONGEST_NAME:
        return False
    return all([letter in LETTERS for letter in value])


def is_numeral(word):
    """Whether a word is a number from 0 as texts write it."""
    if word == "" or not all([digit in DIGITS for digit in word]):
        return False
    return word == "0" or word[0] != "0"
