"""Words: numbers and hearths as they are written in rows of words, with one blank between."""

from kindlestair.bounds import MOST_FIGURES
from kindlestair.webs import is_name


def is_number(word):
    """Whether a word is a number written in figures, without noughts ahead but 0 itself."""
    if not 1 <= len(word) <= MOST_FIGURES or not all(["0" <= sign <= "9" for sign in word]):
        return False
    return word == "0" or word[0] != "0"


def numbers_ahead(words):
    """The numbers with which the words begin."""
    found = []
    for word in words:
        if not is_number(word):
            break
        found.append(int(word))
    return tuple(found)


def are_feeders_told(words):
    """Whether the words are `over` and at least one name, or none at all."""
    if not words:
        return True
    return words[0] == "over" and len(words) > 1 and all([is_name(word) for word in words[1:]])


def hearth_told(words):
    """The hearth that a row's words tell, whether a web takes it or not; None where they are written otherwise."""
    if len(words) < 3 or words[0] != "hearth" or not is_name(words[1]):
        return None
    hungers = numbers_ahead(words[2:])
    behind = words[2 + len(hungers):]
    if not hungers or not are_feeders_told(behind):
        return None
    return words[1], hungers, tuple(behind[1:])
