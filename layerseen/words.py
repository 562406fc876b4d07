"""The words of a text, read one after another."""

from layerseen.errors import BadText
from layerseen.names import is_handler_name, is_name, is_word


class Words:
    """The words of a text; each one that cannot stand is refused with its index.

    A sign that may stand right behind a word is read as a piece of its own, with the word's index.
    """

    def __init__(self, text, sign=None):
        if not isinstance(text, str):
            raise BadText(0, 0)
        words = text.split(" ")
        self.pieces = []
        self.at = 0
        self.many = len(words)
        for index, word in enumerate(words):
            if sign is not None and word.endswith(sign):
                self.pieces.append((word[:-1], index))
                self.pieces.append((sign, index))
            else:
                self.pieces.append((word, index))

    def refuse(self):
        """Tells that the next piece cannot stand, or that it is missing."""
        if self.has_more():
            raise BadText(0, self.pieces[self.at][1])
        raise BadText(0, self.many)

    def has_more(self):
        """Whether there is a next piece."""
        return self.at < len(self.pieces)

    def sees(self, wanted):
        """Whether the next piece is this one."""
        return self.has_more() and self.pieces[self.at][0] == wanted

    def sees_word(self):
        """Whether the next piece is a word for a log."""
        return self.has_more() and is_word(self.pieces[self.at][0])

    def take(self, *wanted):
        """Goes past the next piece, which must be one of these, and returns it."""
        for piece in wanted:
            if self.sees(piece):
                self.at = self.at + 1
                return piece
        self.refuse()

    def take_name(self, last="", barred=()):
        """Goes past a name that is greater than the last one and none of the barred ones, and returns it."""
        if self.has_more() and self.pieces[self.at][0] <= last:
            self.refuse()
        if any([self.sees(name) for name in barred]):
            self.refuse()
        return self._take_if(is_name)

    def take_handler_name(self):
        """Goes past a name or the choice and returns it."""
        return self._take_if(is_handler_name)

    def take_word(self):
        """Goes past a word for a log and returns it."""
        return self._take_if(is_word)

    def sees_number(self, least, most):
        """Whether the next piece is an integer from least to most."""
        return any([self.sees(str(number)) for number in range(least, most + 1)])

    def take_number(self, least, most):
        """Goes past an integer from least to most and returns it."""
        figures = [str(number) for number in range(least, most + 1)]
        return int(self.take(*figures))

    def finish(self):
        """Refuses whatever is left."""
        if self.has_more():
            self.refuse()

    def _take_if(self, fits):
        if not self.has_more() or not fits(self.pieces[self.at][0]):
            self.refuse()
        self.at = self.at + 1
        return self.pieces[self.at - 1][0]
