import itertools
import re
import unittest

from quoteweave.errors import BadRow
from quoteweave.rows import row_of

KEYWORDS = (
    "person matter against see tell by at who what since tellers wordings"
    " apart leans hidden strike quote ground cut"
).split()
QUOTED = ["cid", "dan", "eve", "fay", "gus", "hal"]
PLAIN_ROWS = [
    ("person ann 5 3 2", ["person", "ann", 5, 3, 2]),
    ("matter rain", ["matter", "rain"]),
    ("against rain sun", ["against", "rain", "sun"]),
    ("see 12 ann rain wet", ["see", 12, "ann", "rain", "wet"]),
    ("tell 7 ann bob rain wet", ["tell", 7, "ann", "bob", "rain", "wet"]),
]
QUOTE_ROWS = [
    (" ".join(["tell 7 ann bob rain wet by"] + QUOTED[:many]),
     ["tell", 7, "ann", "bob", "rain", "wet", "by"] + QUOTED[:many])
    for many in range(1, 7)
]
ROWS = PLAIN_ROWS + QUOTE_ROWS

# The forms written down a second time, in another way than the program's.
NAME = "(?!(?:" + "|".join(KEYWORDS) + ")(?: |$))[a-z]{1,8}"
UP_TO_99 = "(?:0|[1-9][0-9]?)"
TIME = "(?:0|[1-9][0-9]{0,8})"
FORMS = [
    f"person {NAME} {UP_TO_99} {UP_TO_99} [1-4]",
    f"matter {NAME}",
    f"against ({NAME}) (?!\\1$){NAME}",
    f"see {TIME} {NAME} {NAME} [a-z]{{1,8}}",
    f"tell {TIME} ({NAME}) (?!\\1 ){NAME} {NAME} [a-z]{{1,8}}(?: by(?: {NAME}){{1,6}})?",
]


def has_form(words):
    return any(re.fullmatch(form, " ".join(words)) for form in FORMS)


def as_told(words):
    return [int(word) if word.isdigit() else word for word in words]


class RowTest(unittest.TestCase):
    def assert_told(self, row, values):
        told = row_of(row, 1)
        self.assertIs(type(told), list, row)
        self.assertEqual(told, values)
        self.assertEqual([type(value) for value in told], [type(value) for value in values], row)

    def assert_refused(self, row, place=1):
        with self.assertRaises(BadRow, msg=repr(row)) as taken:
            row_of(row, place)
        self.assertIs(type(taken.exception), BadRow)
        self.assertEqual(taken.exception.place, place)

    def assert_as_the_forms_say(self, words):
        if has_form(words):
            self.assert_told(" ".join(words), as_told(words))
        else:
            self.assert_refused(" ".join(words))


class Forms(RowTest):
    def test_each_form(self):
        for row, values in ROWS:
            self.assert_told(row, values)

    def test_one_or_two_words_put_in_the_place_of_others(self):
        vocabulary = ["person", "matter", "see", "tell", "by", "ann", "bob", "abcdefgh", "abcdefghi",
                      "Ann", "0", "4", "5", "99", "100", "00", "999999999", "1000000000", "-1", "%"]
        for row, values in PLAIN_ROWS + QUOTE_ROWS[:2]:
            words = row.split()
            for first, second in itertools.combinations_with_replacement(range(len(words)), 2):
                for one, other in itertools.product(vocabulary, repeat=2):
                    changed = list(words)
                    changed[first] = one
                    changed[second] = other
                    self.assert_as_the_forms_say(changed)

    def test_one_form_s_words_behind_another_s_first_word(self):
        for row, values in ROWS:
            for first in KEYWORDS + ["ann", "rain", "0", "Person", "persons", "tel", "|", "#"]:
                self.assert_as_the_forms_say([first] + row.split()[1:])

    def test_a_person_and_a_matter_may_have_one_name(self):
        self.assert_told("see 1 rain rain rain", ["see", 1, "rain", "rain", "rain"])
        self.assert_told("tell 1 ann bob ann bob", ["tell", 1, "ann", "bob", "ann", "bob"])
        self.assert_told("tell 1 ann bob bob ann", ["tell", 1, "ann", "bob", "bob", "ann"])

    def test_names_and_wordings_of_one_and_of_eight_letters(self):
        for row, values in ROWS:
            for place, value in enumerate(values):
                if place == 0 or value == "by" or type(value) is int:
                    continue
                for word in ("x", "xyzxyzxy"):
                    changed = values[:place] + [word] + values[place + 1:]
                    self.assert_told(" ".join(str(part) for part in changed), changed)
                for word in ("xyzxyzxyz", "X", "x1", "x-y", "x.", "x%", "\xe9", "1"):
                    changed = values[:place] + [word] + values[place + 1:]
                    self.assert_refused(" ".join(str(part) for part in changed))


class Counts(RowTest):
    def test_a_word_too_few(self):
        for row, values in PLAIN_ROWS:
            words = row.split()
            for place in range(len(words)):
                self.assert_refused(" ".join(words[:place] + words[place + 1:]))

    def test_the_first_words_alone(self):
        for row, values in ROWS:
            words = row.split()
            for many in range(1, len(words)):
                if not has_form(words[:many]):
                    self.assert_refused(" ".join(words[:many]))
        for keyword in KEYWORDS:
            self.assert_refused(keyword)

    def test_a_word_too_many(self):
        for row, values in PLAIN_ROWS:
            words = row.split()
            for place in range(len(words) + 1):
                for word in ("zoe", "1", "by", words[0]):
                    self.assert_refused(" ".join(words[:place] + [word] + words[place:]))

    def test_two_rows_on_one(self):
        for first, second in itertools.product(PLAIN_ROWS, repeat=2):
            self.assert_refused(first[0] + " " + second[0])


class Bounds(RowTest):
    def test_rank_and_floor(self):
        for number in range(0, 100):
            self.assert_told(f"person ann {number} 3 2", ["person", "ann", number, 3, 2])
            self.assert_told(f"person ann 3 {number} 2", ["person", "ann", 3, number, 2])
        for word in ("-1", "100", "101", "999", "999999999", "1000000000", "00", "01", "099", "x", "+1"):
            self.assert_refused(f"person ann {word} 3 2")
            self.assert_refused(f"person ann 3 {word} 2")

    def test_a_floor_may_lie_above_the_rank(self):
        self.assert_told("person ann 0 99 1", ["person", "ann", 0, 99, 1])
        self.assert_told("person ann 99 0 4", ["person", "ann", 99, 0, 4])

    def test_needs(self):
        for number in (1, 2, 3, 4):
            self.assert_told(f"person ann 5 3 {number}", ["person", "ann", 5, 3, number])
        for word in ("-1", "0", "5", "6", "10", "14", "40", "99", "01", "04", "x"):
            self.assert_refused(f"person ann 5 3 {word}")

    def test_times(self):
        for number in (0, 1, 9, 10, 99, 100, 12345, 100000000, 999999998, 999999999):
            self.assert_told(f"see {number} ann rain wet", ["see", number, "ann", "rain", "wet"])
            self.assert_told(f"tell {number} ann bob rain wet",
                             ["tell", number, "ann", "bob", "rain", "wet"])
            self.assert_told(f"tell {number} ann bob rain wet by cid",
                             ["tell", number, "ann", "bob", "rain", "wet", "by", "cid"])
        for word in ("-1", "1000000000", "9999999999", "00", "01", "0123", "x", "1.5", "1_0"):
            self.assert_refused(f"see {word} ann rain wet")
            self.assert_refused(f"tell {word} ann bob rain wet")
            self.assert_refused(f"tell {word} ann bob rain wet by cid")


class Unlike(RowTest):
    def test_matters_against_one_another(self):
        for matter in ("rain", "a", "abcdefgh"):
            self.assert_refused(f"against {matter} {matter}")
        self.assert_told("against rain rains", ["against", "rain", "rains"])
        self.assert_told("against rains rain", ["against", "rains", "rain"])

    def test_teller_and_hearer(self):
        for person in ("ann", "a", "abcdefgh"):
            self.assert_refused(f"tell 1 {person} {person} rain wet")
            self.assert_refused(f"tell 1 {person} {person} rain wet by cid")
        self.assert_told("tell 1 ann anna rain wet", ["tell", 1, "ann", "anna", "rain", "wet"])

    def test_people_of_a_quote_may_be_alike(self):
        for quote in (["ann"], ["bob"], ["ann", "ann"], ["cid", "cid"], ["bob", "ann", "bob"], ["cid"] * 6):
            self.assert_told("tell 1 ann bob rain wet by " + " ".join(quote),
                             ["tell", 1, "ann", "bob", "rain", "wet", "by"] + quote)


class Quotes(RowTest):
    def test_none_and_seven_and_more_people(self):
        self.assert_refused("tell 7 ann bob rain wet by")
        self.assert_refused("tell 7 ann bob rain wet by  ")
        for many in (7, 8, 12):
            self.assert_refused("tell 7 ann bob rain wet by" + " cid" * many)

    def test_the_word_by_is_asked_for(self):
        for many in range(1, 8):
            self.assert_refused("tell 7 ann bob rain wet" + " cid" * many)
        for word in ("at", "tell", "bye", "By", "b", "from", "by:", "1"):
            self.assert_refused(f"tell 7 ann bob rain wet {word} cid")
        self.assert_refused("tell 7 ann bob rain wet cid by")
        self.assert_refused("tell 7 ann bob rain by cid")

    def test_each_quoted_one_is_a_name(self):
        for many in range(1, 7):
            for place in range(many):
                for word in KEYWORDS + ["1", "0", "Cid", "abcdefghi", "c-d"]:
                    quote = QUOTED[:place] + [word] + QUOTED[place + 1:many]
                    self.assert_refused("tell 7 ann bob rain wet by " + " ".join(quote))

    def test_a_second_by(self):
        self.assert_refused("tell 7 ann bob rain wet by by")
        self.assert_refused("tell 7 ann bob rain wet by by cid")
        self.assert_refused("tell 7 ann bob rain wet by cid by dan")

    def test_no_other_row_has_a_quote(self):
        for row, values in PLAIN_ROWS[:4]:
            for many in range(0, 8):
                self.assert_refused(row + " by" + " cid" * many)


class Keywords(RowTest):
    def test_in_a_name_s_place(self):
        rows = ["person {} 5 3 2", "matter {}", "against {} sun", "against rain {}", "see 1 {} rain wet",
                "see 1 ann {} wet", "tell 1 {} bob rain wet", "tell 1 ann {} rain wet",
                "tell 1 ann bob {} wet", "tell 1 ann bob {} wet by cid"]
        for row in rows:
            self.assertIsNotNone(row_of(row.format("zoe"), 1))
            for keyword in KEYWORDS:
                self.assert_refused(row.format(keyword))

    def test_in_a_wording_s_place(self):
        for keyword in KEYWORDS:
            self.assert_told(f"see 1 ann rain {keyword}", ["see", 1, "ann", "rain", keyword])
            self.assert_told(f"tell 1 ann bob rain {keyword}", ["tell", 1, "ann", "bob", "rain", keyword])
            self.assert_told(f"tell 1 ann bob rain {keyword} by cid",
                             ["tell", 1, "ann", "bob", "rain", keyword, "by", "cid"])

    def test_by_in_a_wording_s_place_begins_no_quote(self):
        self.assert_told("tell 1 ann bob rain by by " + " ".join(QUOTED),
                         ["tell", 1, "ann", "bob", "rain", "by", "by"] + QUOTED)
        self.assert_refused("tell 1 ann bob rain by by")
        self.assert_refused("tell 1 ann bob by cid")
        self.assert_refused("tell 1 ann bob rain by " + " ".join(QUOTED))


class Blanks(RowTest):
    def test_a_row_without_a_word(self):
        for many in (0, 1, 2, 3, 50, 200):
            self.assertIsNone(row_of(" " * many, 1))

    def test_ahead_between_and_behind(self):
        for row, values in ROWS:
            for ahead, between, behind in itertools.product((0, 1, 2, 9), (1, 2, 3, 9), (0, 1, 2, 9)):
                spaced = " " * ahead + row.replace(" ", " " * between) + " " * behind
                self.assert_told(spaced, values)

    def test_more_blanks_at_one_place(self):
        for row, values in ROWS:
            words = row.split()
            for place in range(1, len(words)):
                self.assert_told(" ".join(words[:place]) + "    " + " ".join(words[place:]), values)

    def test_words_are_parted_by_blanks_alone(self):
        for row, values in ROWS:
            for sign in (",", "_", "-", "\t", "\xa0", "\r", ""):
                self.assert_refused(row.replace(" ", sign))
                self.assert_refused(row.replace(" ", sign, 1))

    def test_blanks_don_t_mend_a_row(self):
        self.assert_refused("  matter   ra in ")
        self.assert_refused("  matter  ")
        self.assert_refused(" per son ann 5 3 2")
        self.assert_refused("person ann 5 3 2 2   ")

    def test_any_other_sign_alone_is_a_word(self):
        for code in range(ord("!"), ord("~") + 1):
            self.assert_refused(chr(code))
            self.assert_refused("  " + chr(code) + " ")

    def test_any_other_sign_behind_a_row(self):
        for row, values in ROWS:
            for code in range(ord("!"), ord("~") + 1):
                self.assert_refused(row + " #" + chr(code))


class Places(RowTest):
    def test_the_place_is_the_one_handed_in(self):
        bad = ["who rain", "person ann 100 3 2", "person ann 5 3 0", "matter by", "against rain rain",
               "see 01 ann rain wet", "tell 1 ann ann rain wet", "tell 1 ann bob rain wet by", "%"]
        for row in bad:
            for place in (1, 2, 7, 399, 400, 401):
                self.assert_refused(row, place)

    def test_the_place_changes_nothing_of_a_good_row(self):
        for row, values in ROWS:
            self.assertEqual([row_of(row, place) for place in (1, 2, 400)], [values] * 3)
        self.assertEqual([row_of("  ", place) for place in (1, 2, 400)], [None] * 3)


class Own(RowTest):
    def test_a_told_list_that_is_changed_changes_nothing(self):
        for row, values in ROWS:
            told = row_of(row, 1)
            kept = row_of(row, 1)
            self.assertIsNot(told, kept)
            told[0] = "other"
            told.append("by")
            told.reverse()
            self.assertEqual(kept, values)
            self.assert_told(row, values)
            told.clear()
            self.assert_told(row, values)

    def test_the_same_is_answered_the_same_whatever_was_asked_between(self):
        for turn in range(3):
            for row, values in ROWS:
                self.assert_told(row, values)
                self.assert_refused(row + " 1")
                self.assertIsNone(row_of("", 1))


if __name__ == "__main__":
    unittest.main()
