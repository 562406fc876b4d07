"""Names, words and fresh names."""

import itertools
import string

from layerseen.errors import BadName
from layerseen.names import fresh, is_name, is_word
from tests.support import LayerCase, values

KEPT = "put copy if else say fail catch choose or none stop skip cell log failure choice".split()


class NamesTest(LayerCase):
    def test_strings_of_each_length(self):
        for length in range(11):
            for letter in "amz":
                fits = 1 <= length <= 8
                self.assertIs(is_name(letter * length), fits)
                self.assertIs(is_word(letter * length), fits)
        self.assertIs(is_name(string.ascii_lowercase[:8]), True)
        self.assertIs(is_name(string.ascii_lowercase[18:]), True)

    def test_each_letter_alone(self):
        for letter in string.ascii_lowercase:
            self.assertIs(is_name(letter), True)
            self.assertIs(is_word(letter), True)

    def test_another_sign_at_each_place(self):
        others = [sign for sign in map(chr, range(32, 127)) if sign not in string.ascii_lowercase] + ["\n", "\t"]
        for length in range(1, 10):
            for place in range(length):
                for sign in others:
                    value = "a" * place + sign + "b" * (length - place - 1)
                    self.assertIs(is_name(value), False)
                    self.assertIs(is_word(value), False)

    def test_kept_words_are_words_but_no_names(self):
        for word in KEPT:
            self.assertIs(is_word(word), True)
            self.assertIs(is_name(word), False)

    def test_kept_words_with_a_letter_more_or_less(self):
        for word in KEPT:
            near = [word + "a", "a" + word, word[:-1], word[1:], word[0] + word]
            for value in near:
                fits = value not in KEPT and 1 <= len(value) <= 8
                self.assertIs(is_name(value), fits)

    def test_what_is_no_string(self):
        for value in values(lambda value: isinstance(value, str)):
            self.assertIs(is_name(value), False)
            self.assertIs(is_word(value), False)

    def test_by_name(self):
        self.assertIs(is_name(value="x"), True)
        self.assertIs(is_word(value="put"), True)


class FreshTest(LayerCase):
    def some(self, many, *taken):
        return list(itertools.islice(fresh(*taken), many))

    def test_the_order_with_the_kept_words_left_out(self):
        letters = string.ascii_lowercase
        rows = [
            "".join(row) for length in [1, 2, 3, 4] for row in itertools.product(letters, repeat=length)
        ]
        expected = [row for row in rows if row not in KEPT]
        found = self.some(len(expected) + 1)
        self.assertEqual(found[:-1], expected)
        self.assertEqual(found[-1], "aaaaa")

    def test_taken_names_are_left_out(self):
        self.assertEqual(self.some(4, "a", "c", "e"), ["b", "d", "f", "g"])
        self.assertEqual(self.some(4, "e", "c", "a"), ["b", "d", "f", "g"])
        self.assertEqual(self.some(3, "b", "aaa", "zzzzzzzz"), ["a", "c", "d"])
        self.assertEqual(self.some(3, *string.ascii_lowercase), ["aa", "ab", "ac"])
        self.assertEqual(self.some(3, *string.ascii_lowercase, "ab"), ["aa", "ac", "ad"])

    def test_a_taken_name_that_stands_twice(self):
        self.assertEqual(self.some(3, "a", "a", "b", "a"), ["c", "d", "e"])

    def test_the_first_value_that_is_no_name(self):
        for value in values(is_name):
            for taken in [(value,), ("a", value), ("a", "b", value, "if"), (value, 7), ("a", "a", value, None)]:
                self.refused(BadName(value), lambda: next(fresh(*taken)))

    def test_each_call_begins_anew(self):
        first = fresh("a")
        self.assertEqual(next(first), "b")
        self.assertEqual(next(first), "c")
        self.assertEqual(next(fresh("a")), "b")
