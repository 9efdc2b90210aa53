"""Lines and words of texts: how they are written, and how they are read one after the other."""

from bothfree.checks import is_name
from bothfree.errors import NoText

DIGITS = "0123456789"


def are_names(words):
    """Tell whether words are different names in ascending order."""
    return all([is_name(word) for word in words]) and all([one < other for one, other in zip(words, words[1:])])


def are_some(words, known):
    """Tell whether words are different ones of some names in ascending order."""
    return are_names(words) and all([word in known for word in words])


def is_number(word):
    """Tell whether a word is an integer from 0 on, in decimal without leading zeros."""
    return word != "" and all([digit in DIGITS for digit in word]) and (word == "0" or word[0] != "0")


def is_decimal(word):
    """Tell whether a word is an integer in decimal, without leading zeros."""
    return is_number(word) or (word[:1] == "-" and word != "-0" and is_number(word[1:]))


def integer_of(word):
    """Return the integer that a word tells in decimal.

    It is made of pieces, because Python refuses to read very long ones at once.
    """
    if word[0] == "-":
        return -integer_of(word[1:])
    first = len(word) - len(word) // 60 * 60
    total = int("0" + word[:first])
    for at in range(first, len(word), 60):
        total = total * 10 ** 60 + int(word[at:at + 60])
    return total


class Lines:
    """The lines of a text, which are read one after the other; they raise NoText with the number of a wrong line."""

    def __init__(self, text):
        if not isinstance(text, str):
            raise NoText(0)
        self._lines = text.split("\n")
        self._read = 0

    def more(self):
        """Tell whether lines are left."""
        return self._read < len(self._lines)

    def words(self):
        """Return the words of the next line."""
        self._read += 1
        self.check(self._read <= len(self._lines))
        return self._lines[self._read - 1].split(" ")

    def words_behind(self, head):
        """Return the words of the next line behind its first word, which must be this one."""
        words = self.words()
        self.check(words[0] == head)
        return words[1:]

    def check(self, fine):
        """Raise NoText with the number of the last line that was read unless it is fine."""
        if not fine:
            raise NoText(self._read)

    def close(self):
        """Raise NoText with the number of the next line if lines are left."""
        self._read += 1
        self.check(self._read > len(self._lines))
