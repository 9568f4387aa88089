"""Whole numbers and words."""

KEPT = ("yes", "no", "if", "let", "loop", "raise", "try", "pick", "many", "parts", "mark", "melt", "def")
FIGURES = "0123456789"
LONGEST_STEM = 8
LONGEST_NUMBER = 3


def is_whole(thing):
    """Whether a thing is a whole number: an int that is no truth."""
    return isinstance(thing, int) and not isinstance(thing, bool)


def is_word(thing):
    """Whether a thing is a word: a stem, perhaps with a number behind it."""
    if not isinstance(thing, str) or thing in KEPT:
        return False
    stem = stem_of(thing)
    return is_stem(stem) and is_number_behind(thing[len(stem):])


def fresh(word, words):
    """The first word of this word's stem, with a number behind it, that is not among the words."""
    taken = set(words)
    stem = stem_of(word)
    number = 1
    while f"{stem}{number}" in taken:
        number += 1
    return f"{stem}{number}"


def stem_of(text):
    """What stands in a text ahead of the figures at its end."""
    return text.rstrip(FIGURES)


def is_stem(text):
    """Whether a text is one to eight small letters."""
    # isalpha and islower would let letters of other alphabets through.
    return 1 <= len(text) <= LONGEST_STEM and all(["a" <= sign <= "z" for sign in text])


def is_number_behind(figures):
    """Whether figures may stand behind a stem: none, or a number from 1 to 999 with no 0 ahead."""
    return len(figures) <= LONGEST_NUMBER and not figures.startswith("0")
