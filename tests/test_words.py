import unittest

from quoteweave.words import is_name, is_word, number_in

KEYWORDS = (
    "person matter against see tell by at who what since tellers wordings"
    " apart leans hidden strike quote ground cut"
).split()
SIGNS = [chr(code) for code in range(ord(" "), ord("~") + 1)]
SMALL_LETTERS = SIGNS[ord("a") - 32:ord("z") - 31]
FIGURES = SIGNS[ord("0") - 32:ord("9") - 31]
# Letters and figures to Python, but none from the blank to the tilde.
STRANGE = ["\n", "\t", "\r", "\x00", "\x1f", "\x7f", "\xa0", "\xe9", "\xdf", "\xaa", "\u0430",
           "\uff41", "\xb2", "\u0663", "\uff11", "\u2460"]


def with_sign_at_each_place(sign, filler, most):
    """The words of one to `most` signs of which the sign is one, at each place of them."""
    words = []
    for length in range(1, most + 1):
        for place in range(length):
            words.append(filler * place + sign + filler * (length - place - 1))
    return words


class Wordings(unittest.TestCase):
    def test_ordinary_words(self):
        for word in ("wet", "dry", "a", "z", "az", "za", "abcdefgh", "ijklmnop", "qrstuvwx", "yz"):
            self.assertIs(is_word(word), True, word)

    def test_lengths(self):
        for letter in SMALL_LETTERS:
            found = [is_word(letter * length) for length in range(0, 13)]
            self.assertEqual(found, [False] + [True] * 8 + [False] * 4)
        self.assertIs(is_word(""), False)
        self.assertIs(is_word("m" * 1000), False)

    def test_each_keyword_is_a_word(self):
        for keyword in KEYWORDS:
            self.assertIs(is_word(keyword), True, keyword)

    def test_each_sign_at_each_place(self):
        for sign in SIGNS + STRANGE:
            for word in with_sign_at_each_place(sign, "m", 8):
                self.assertIs(is_word(word), sign in SMALL_LETTERS, repr(word))

    def test_nothing_but_other_signs(self):
        for sign in SIGNS + STRANGE:
            for length in range(1, 9):
                self.assertIs(is_word(sign * length), sign in SMALL_LETTERS, repr(sign))


class Names(unittest.TestCase):
    def test_ordinary_names(self):
        for word in ("ann", "bob", "rain", "a", "z", "abcdefgh", "ijklmnop", "qrstuvwx", "yz"):
            self.assertIs(is_name(word), True, word)

    def test_lengths(self):
        for letter in SMALL_LETTERS:
            found = [is_name(letter * length) for length in range(0, 13)]
            self.assertEqual(found, [False] + [True] * 8 + [False] * 4)

    def test_no_keyword_is_a_name(self):
        for keyword in KEYWORDS:
            self.assertIs(is_name(keyword), False, keyword)

    def test_words_near_a_keyword_are_names(self):
        for keyword in KEYWORDS:
            near = [keyword[1:], keyword[:-1], keyword + "x", "x" + keyword, keyword[::-1]]
            for word in near:
                fits = 1 <= len(word) <= 8 and word not in KEYWORDS
                self.assertIs(is_name(word), fits, word)

    def test_words_that_are_no_keywords_here(self):
        for word in ("world", "name", "rank", "floor", "needs", "time", "word", "number", "never",
                     "holds", "true", "false", "none", "people", "matters", "seen", "told", "is"):
            self.assertIs(is_name(word), True, word)

    def test_a_keyword_in_other_letters_is_neither(self):
        for keyword in KEYWORDS:
            for word in (keyword.upper(), keyword.title(), " " + keyword, keyword + " "):
                self.assertIs(is_name(word), False, word)
                self.assertIs(is_word(word), False, word)

    def test_each_sign_at_each_place(self):
        for sign in SIGNS + STRANGE:
            for word in with_sign_at_each_place(sign, "m", 8):
                self.assertIs(is_name(word), sign in SMALL_LETTERS, repr(word))


class Numbers(unittest.TestCase):
    def assert_number(self, word, number):
        found = number_in(word)
        self.assertIs(type(found), int, word)
        self.assertEqual(found, number)

    def test_ordinary_numbers(self):
        for number in list(range(0, 2000)) + [12345, 987654, 7654321, 10203040, 123456789]:
            self.assert_number(str(number), number)

    def test_nought_and_one_are_numbers_and_no_truths(self):
        self.assert_number("0", 0)
        self.assert_number("1", 1)

    def test_one_to_nine_figures(self):
        for figure in "123456789":
            for length in range(1, 10):
                self.assert_number(figure * length, int(figure * length))
            for length in (0, 10, 11, 12, 40, 5000):
                self.assertIsNone(number_in(figure * length))

    def test_the_last_number_and_the_one_behind_it(self):
        self.assert_number("999999998", 999999998)
        self.assert_number("999999999", 999999999)
        self.assertIsNone(number_in("1000000000"))
        self.assert_number("100000000", 100000000)

    def test_no_nought_ahead(self):
        for word in ("00", "01", "09", "000", "010", "0123", "000000000", "012345678", "0000000000"):
            self.assertIsNone(number_in(word), word)
        self.assert_number("10", 10)
        self.assert_number("100", 100)

    def test_each_sign_at_each_place(self):
        for sign in SIGNS + STRANGE:
            for word in with_sign_at_each_place(sign, "1", 9):
                if sign not in FIGURES or (word[0] == "0" and len(word) > 1):
                    self.assertIsNone(number_in(word), repr(word))
                else:
                    self.assert_number(word, int(word))

    def test_what_python_alone_takes_for_a_number(self):
        for word in ("", " ", "-1", "+1", "-0", "+0", "1_0", "1_000", " 1", "1 ", "1\n", "\n1", "1.0",
                     "1e3", "0x1", "0b1", "0o7", "True", "None", "\u0661\u0662"):
            self.assertIsNone(number_in(word), repr(word))

    def test_words_are_no_numbers_and_numbers_no_words(self):
        for word in ("ann", "o", "l", "one", "abcdefgh"):
            self.assertIsNone(number_in(word), word)
        for word in ("0", "1", "12", "999999999"):
            self.assertIs(is_word(word), False)
            self.assertIs(is_name(word), False)


class Again(unittest.TestCase):
    def test_the_same_is_answered_the_same(self):
        words = KEYWORDS + ["", "ann", "Ann", "0", "00", "12", "999999999", "1000000000", "a b"]
        first = [(is_word(word), is_name(word), number_in(word)) for word in words]
        for turn in range(3):
            self.assertEqual([(is_word(word), is_name(word), number_in(word)) for word in words], first)


if __name__ == "__main__":
    unittest.main()
