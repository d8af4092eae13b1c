import copy
import itertools
import re
import unittest

from helping import AGAINST, MATTERS, NAMES, PEOPLE, drawn, shuffled_numbers, some_world, spoil
from quoteweave.asking import answers, read_questions
from quoteweave.errors import BadRow, Misplaced, NoName, TooMany, Twice, Unfinished
from quoteweave.going import gone, until_time
from quoteweave.papers import apart_of, ground_of, since_of, tellers_of, wordings_of
from quoteweave.quotes import said_truly
from quoteweave.reader import read_world
from quoteweave.showing import shown_world
from quoteweave.strikes import hidden_of, leans_of, struck

KEYWORDS = (
    "person matter against see tell by at who what since tellers wordings"
    " apart leans hidden strike quote ground cut"
).split()
PAIRS = ["since", "tellers", "wordings", "apart", "leans", "hidden", "cut"]
READ = [
    ("at 12", ("at", 12)), ("who rain", ("who", "rain")), ("what ann", ("what", "ann")),
    ("ground rain", ("ground", "rain")), ("strike ann", ("strike", "ann")), ("quote 7", ("quote", 7)),
] + [(f"{word} ann rain", (word, "ann", "rain")) for word in PAIRS]

# The forms written down a second time, in another way than the program's.
NAME = "(?!(?:" + "|".join(KEYWORDS) + ")(?: |$))[a-z]{1,8}"
NUMBER = "(?:0|[1-9][0-9]{0,8})"
FORMS = [f"(?:at|quote) {NUMBER}", f"(?:who|what|ground|strike) {NAME}", f"(?:{'|'.join(PAIRS)}) {NAME} {NAME}"]

# The events are gone through as 1 3 2 0 4 5 6 7. Behind the one of time 8, ann is found wrong by bob, and her
# tell to him is dead; it lives again behind that of time 9.
WORLD = """person bob 4 0 1
person ann 5 3 1
person eve 4 0 1
person cid 4 0 2
matter sun
matter rain
matter wind
against rain sun
tell 4 ann cid rain wet
see 1 ann rain pours
tell 3 ann bob rain damp
see 2 eve rain drops
tell 5 eve cid rain drips by ann
tell 6 bob eve rain damp by ann
see 8 bob sun hot
see 9 bob rain soaked"""

# All have it along a row of tells, so each ground and cut is the only one.
ROW = """person dan 1 1 1
person ann 1 1 1
person bob 1 1 2
person cid 1 1 1
person eve 1 1 1
matter rain
matter sun
see 3 ann rain wet
tell 5 ann cid rain wet
tell 7 cid dan rain wet by cid
tell 8 dan bob rain wet by cid ann"""


def has_form(row):
    return any(re.fullmatch(form, " ".join(row.split())) for form in FORMS)


def as_told(row):
    return tuple(int(word) if word.isdigit() else word for word in row.split())


def held_behind(world):
    steps = gone(world)
    return steps[-1][3] if steps else []


def turns(pairs):
    return [part for pair in pairs for part in pair]


class Due:
    """What is to be told of a question, by the functions of these names, of the world until a time."""

    def __init__(self, whole, time=None):
        self.world = whole if time is None else until_time(whole, time)
        self.kept = [number for number, event in enumerate(whole[3]) if time is None or event[1] <= time]

    def row(self, question):
        words = getattr(self, question[0])(*question[1:])
        return " ".join(str(word) for word in question) + ":" + "".join(" " + str(word) for word in words)

    def who(self, matter):
        return [name for name, what in held_behind(self.world) if what == matter]

    def what(self, person):
        return [what for name, what in held_behind(self.world) if name == person]

    def since(self, person, matter):
        since = since_of(self.world, person, matter)
        return ["never"] if since is None else [since]

    def tellers(self, person, matter):
        return [self.kept[number] for number in tellers_of(self.world, person, matter)]

    def wordings(self, person, matter):
        return turns((self.kept[number], word) for number, word in wordings_of(self.world, person, matter))

    def apart(self, person, matter):
        chains, cut = apart_of(self.world, person, matter)
        return [len(chains)] + turns(["|"] + chain for chain in chains) + ["cut"] + cut

    def cut(self, person, matter):
        ground, cuts = ground_of(self.world, matter)
        return ["holds"] if person in dict(ground) else dict(cuts)[person]

    def ground(self, matter):
        words = []
        for name, chains in ground_of(self.world, matter)[0]:
            words += ["|", name] + turns(["by"] + chain for chain in chains)
        return words

    def leans(self, person, matter):
        return leans_of(self.world, person, matter)

    def hidden(self, person, matter):
        return hidden_of(self.world, person, matter)

    def strike(self, person):
        return turns(struck(self.world, person)[0])

    def quote(self, number):
        if number not in self.kept:
            return ["none"]
        return ["true" if said_truly(self.world, self.kept.index(number)) else "false"]


def answers_due(world, questions):
    rows = []
    due = Due(world)
    for question in questions:
        if question[0] == "at":
            due = Due(world, question[1])
        else:
            rows.append(due.row(question))
    return "\n".join(rows)


def all_questions(world):
    """Each question but `at` that can be asked of a world, and quotes of numbers beyond it."""
    questions = [("who", matter) for matter in world[1]] + [("ground", matter) for matter in world[1]]
    for name in [person[0] for person in world[0]]:
        questions += [("what", name), ("strike", name)]
        questions += [(word, name, matter) for word in PAIRS for matter in world[1]]
    return questions + [("quote", number) for number in range(len(world[3]) + 2)]


def text_of(questions):
    return "\n".join(" ".join(str(word) for word in question) for question in questions)


class AskingTest(unittest.TestCase):
    def assert_read(self, text, wanted):
        told = read_questions(text)
        self.assertIs(type(told), list)
        self.assertEqual(told, wanted, text)
        for question, due in zip(told, wanted):
            self.assertIs(type(question), tuple)
            self.assertEqual([type(word) for word in question], [type(word) for word in due])

    def assert_refused(self, refusal, place, ask, *texts):
        with self.assertRaises(refusal, msg=texts) as taken:
            ask(*texts)
        self.assertIs(type(taken.exception), refusal, texts)
        self.assertIs(type(taken.exception.place), int)
        self.assertEqual(taken.exception.place, place, texts)

    def assert_bad(self, text, place=1):
        """Refused by both, whatever else is asked."""
        self.assert_refused(BadRow, place, read_questions, text)
        self.assert_refused(BadRow, place, answers, WORLD, text)

    def assert_no_name(self, text, place, world=WORLD):
        read_questions(text)
        self.assert_refused(NoName, place, answers, world, text)

    def assert_answers(self, world, *rows):
        """The rows told, written by hand, and each `at` between; held against the functions of these names, too."""
        questions = [row.split(":")[0] for row in rows]
        told = answers(world, "\n".join(questions))
        self.assertIs(type(told), str)
        self.assertEqual(told.split("\n"), [row for row in rows if ":" in row])
        self.assertEqual(told, answers_due(read_world(world), [as_told(row) for row in questions]))
        self.assertEqual(answers(world, "\n".join(questions)), told)


class Read(AskingTest):
    def test_each_form(self):
        for row, question in READ:
            self.assert_read(row, [question])

    def test_all_forms_in_one_text(self):
        self.assert_read("\n".join(row for row, question in READ), [question for row, question in READ])
        self.assert_read("\n".join(row for row, question in READ[::-1]), [question for row, question in READ[::-1]])

    def test_blanks_ahead_between_and_behind(self):
        for row, question in READ:
            wide = "    ".join(row.split())
            for text in ("  " + row, row + "   ", wide, "   " + wide + " ", "\n" + row, row + "\n", f" \n{wide}\n "):
                self.assert_read(text, [question])

    def test_rows_without_a_word(self):
        self.assert_read("\n\nwho rain\n   \n\nwhat ann\n\n", [("who", "rain"), ("what", "ann")])

    def test_a_text_without_a_question(self):
        for text in ("", " ", "\n", "\n\n\n", "   \n  \n", " " * 200):
            self.assert_read(text, [])

    def test_questions_alike_stay(self):
        self.assert_read("at 1\nat 1\nwho rain\nwho rain\nat 1", [("at", 1), ("at", 1), ("who", "rain"),
                                                                 ("who", "rain"), ("at", 1)])

    def test_names_are_not_looked_up(self):
        self.assert_read("who zzz\nsince a abcdefgh\ncut ann ann", [("who", "zzz"), ("since", "a", "abcdefgh"),
                                                                     ("cut", "ann", "ann")])

    def test_numbers_as_numbers(self):
        for word in ("at", "quote"):
            for number in (0, 1, 9, 10, 99, 100, 123456789, 999999999):
                self.assert_read(f"{word} {number}", [(word, number)])

    def test_as_many_rows_as_may_be_and_more(self):
        for many in (399, 400, 401, 900):
            self.assert_read("\n".join(["who rain"] * many), [("who", "rain")] * many)
        self.assert_read(" " * 192 + "who rain", [("who", "rain")])
        self.assert_read("who" + " " * 300 + "rain", [("who", "rain")])

    def test_a_told_list_that_is_changed(self):
        text = "\n".join(row for row, question in READ)
        kept = read_questions(text)
        for turn in range(3):
            told = read_questions(text)
            self.assertIsNot(told, kept)
            self.assertEqual(told, [question for row, question in READ])
            spoil(told)
            self.assertEqual(kept, [question for row, question in READ])
        self.assertIsNot(read_questions(""), read_questions(""))


class Bad(AskingTest):
    def test_a_word_too_few(self):
        for row, question in READ:
            words = row.split()
            self.assert_bad(words[0])
            for at in range(len(words)):
                if words[:at] + words[at + 1:]:
                    self.assert_bad(" ".join(words[:at] + words[at + 1:]))

    def test_a_word_too_many(self):
        for row, question in READ:
            words = row.split()
            for more in ("ann", "rain", "7", "by", "cut", ":", "a"):
                self.assert_bad(f"{row} {more}")
                for at in range(1, len(words)):
                    self.assert_bad(" ".join(words[:at] + [more] + words[at:]))

    def test_a_keyword_as_a_name(self):
        for row, question in READ:
            words = row.split()
            for at, keyword in itertools.product(range(1, len(words)), KEYWORDS):
                self.assert_bad(" ".join(words[:at] + [keyword] + words[at + 1:]))

    def test_a_name_that_is_none(self):
        for row, question in READ:
            words = row.split()
            strange = ("Ann", "abcdefghi", "an2", "a_b", "a-b", "|", "A", "ann,", "%", "~", "\u00e4", "-1", "a1")
            for at, name in itertools.product(range(1, len(words)), strange):
                self.assert_bad(" ".join(words[:at] + [name] + words[at + 1:]))

    def test_a_number_that_is_none(self):
        for word in ("at", "quote"):
            for number in ("00", "01", "007", "0000000000", "1000000000", "1234567890", "0123456789", "-1", "+1", "1.0",
                           "1_0", "one", "ann", "0x1", "1e3", "\u0663", "\u00b2", "True"):
                self.assert_bad(f"{word} {number}")

    def test_a_number_as_a_name(self):
        for row, question in READ:
            if question[0] not in ("at", "quote"):
                self.assert_bad(row.replace("rain", "7").replace("ann", "7"))
                self.assert_bad(row.rsplit(" ", 1)[0] + " 0")

    def test_other_first_words(self):
        for word in ("person", "matter", "against", "see", "tell", "by", "ann", "rain", "At", "WHO", "whose", "wh",
                     "true", "none", "never", "holds", "7", "|", "who:"):
            for rest in ("", " ann", " 7", " ann rain", " rain", " ann 5 3 2", " 7 ann rain wet"):
                self.assert_bad(word + rest)

    def test_rows_of_a_world(self):
        for row in WORLD.split("\n"):
            self.assert_bad(row)

    def test_other_signs_than_the_blank_are_no_blanks(self):
        for row, question in READ:
            for sign in ("\t", "\r", "\u00a0", "\v", "\f", ","):
                self.assert_bad(row.replace(" ", sign, 1))
                self.assert_bad(row + sign)
                self.assert_bad(sign + row)
        for sign in ("\t", "\r", "\u00a0"):
            self.assert_bad(sign)

    def test_the_first_such_row(self):
        bad = ["who", "at 01", "since ann", "cut cut rain", "tell"]
        for one, other in itertools.product(bad, repeat=2):
            self.assert_bad("\n".join(["who rain", one, "what ann", other]), 2)
            self.assert_bad("\n".join(["who rain", "", "  ", "at 4", "what ann", one, "", other]), 6)
            self.assert_bad(f"{one}\n{other}", 1)
        self.assert_bad("who rain\n" * 400 + "who", 401)
        self.assert_bad("\n" * 20 + "who", 21)

    def test_one_or_two_words_put_in_the_place_of_others(self):
        vocabulary = ["at", "who", "since", "cut", "quote", "by", "ann", "rain", "abcdefgh", "abcdefghi", "Ann", "0",
                      "5", "00", "999999999", "1000000000", "-1", "%"]
        for row, question in READ[:3] + READ[5:7] + READ[-1:]:
            words = row.split()
            for first, second in itertools.combinations_with_replacement(range(len(words)), 2):
                for one, other in itertools.product(vocabulary, repeat=2):
                    changed = list(words)
                    changed[first], changed[second] = one, other
                    text = " ".join(changed)
                    if has_form(text):
                        self.assert_read(text, [as_told(text)])
                    else:
                        self.assert_refused(BadRow, 1, read_questions, text)


class Strangers(AskingTest):
    def test_a_person_or_a_matter_that_is_not_told(self):
        for row in ("who snow", "ground snow", "what joe", "strike joe"):
            self.assert_no_name(row, 1)
        for word in PAIRS:
            for names in ("joe rain", "ann snow", "joe snow"):
                self.assert_no_name(f"{word} {names}", 1)

    def test_a_person_asked_for_as_a_matter_and_a_matter_as_a_person(self):
        for row in ("who ann", "ground ann", "what rain", "strike rain"):
            self.assert_no_name(row, 1)
        for word in PAIRS:
            for names in ("rain ann", "rain rain", "ann ann", "rain sun", "ann bob"):
                self.assert_no_name(f"{word} {names}", 1)

    def test_one_name_of_a_person_and_a_matter(self):
        world = "person ann 1 1 1\nperson bob 1 1 1\nmatter bob\nmatter rain\nsee 1 ann bob wet\ntell 2 ann bob bob wet"
        self.assert_answers(world, "who bob: ann bob", "what bob: bob", "since bob bob: 2", "cut bob rain:")
        self.assert_no_name("who bob\nwho ann", 2, world)
        self.assert_no_name("what bob\nwhat rain", 2, world)

    def test_the_first_question_with_a_stranger(self):
        self.assert_no_name("who rain\nwho snow\nwhat joe", 2)
        self.assert_no_name("\n\n  who   rain\n\n\nsince ann  snow \nwho fog", 6)
        self.assert_no_name("at 3\nquote 99\nwhat ann\n\ncut joe sun\n", 5)
        self.assert_no_name("who rain\n" * 400 + "who snow\nwho fog", 401)

    def test_a_stranger_behind_an_at(self):
        for time in (0, 5, 999):
            self.assert_no_name(f"at {time}\nwhat joe", 2)
        # Told by the world, though no event names them.
        self.assertEqual(answers(WORLD, "at 0\nwho wind\nwhat cid"), "who wind:\nwhat cid:")

    def test_names_that_differ_in_one_letter(self):
        for name in ("an", "anna", "nan", "a"):
            self.assert_no_name(f"what {name}", 1)
        for name in ("rai", "rainy", "ain", "r"):
            self.assert_no_name(f"who {name}", 1)

    def test_a_row_of_no_form_further_down(self):
        for bad in ("who", "at 01", "since ann", "cut cut rain", "see 1 ann rain wet", "quote 1234567890"):
            self.assert_bad(f"who snow\n{bad}", 2)
            self.assert_bad(f"who rain\nwhat joe\n\n{bad}\nwho fog\nwho", 4)
            self.assert_bad(f"{bad}\nwho snow", 1)

    def test_numbers_are_no_strangers(self):
        self.assert_answers(WORLD, "quote 999999999: none", "at 999999999", "quote 80: none")

    def test_nothing_asked_for_is_asked_of_no_stranger(self):
        self.assertEqual(answers(WORLD, ""), "")
        self.assertEqual(answers(WORLD, "at 3"), "")


class WorldFirst(AskingTest):
    """A world's text that is refused, whatever the questions are."""

    WORLDS = [
        (BadRow, 3, "person ann 1 1 1\n\nwho rain"),
        (BadRow, 2, "person ann 1 1 1\nmatter who"),
        (Misplaced, 3, "person ann 1 1 1\nmatter rain\nperson bob 1 1 1"),
        (Twice, 3, "person ann 1 1 1\nmatter rain\nmatter rain"),
        (NoName, 3, "person ann 1 1 1\nmatter rain\nsee 1 joe rain wet"),
        (TooMany, 8, "person ann 1 1 1\n" + "\n".join(f"matter {name}" for name in "abcdefgh")),
        (Unfinished, 1, ""),
        (Unfinished, 2, "person ann 1 1 1\n"),
        (Unfinished, 1, "matter rain"),
    ]

    def test_a_world_that_is_refused(self):
        for refusal, place, world in self.WORLDS:
            for questions in ("", "who rain", "what ann", "who snow", "who", "at 3\n\n\n\n\n\nwho", "\nwho rain who"):
                self.assert_refused(refusal, place, answers, world, questions)

    def test_the_same_refusal_as_of_the_world_alone(self):
        rows = WORLD.split("\n")
        more = ("who rain", "person ann 1 1 1", "matter snow", "see 1 x y z")
        for at, bad in itertools.product(range(len(rows)), more):
            world = "\n".join(rows[:at] + [bad] + rows[at:])
            try:
                read_world(world)
            except ValueError as refusal:
                self.assert_refused(type(refusal), refusal.place, answers, world, "who\nwho snow")


class Rows(AskingTest):
    """How each row is written, with nothing to tell and with something."""

    def test_who(self):
        self.assert_answers(WORLD, "who rain: bob ann eve cid", "who sun: bob", "who wind:")

    def test_what(self):
        self.assert_answers(WORLD, "what bob: sun rain", "what ann: rain", "what cid: rain")
        self.assert_answers(ROW, "what eve:", "what dan: rain", "what bob:")

    def test_since(self):
        self.assert_answers(WORLD, "since bob rain: 9", "since bob sun: 8", "since cid rain: 5", "since cid sun: never",
                            "since ann rain: 1")
        self.assert_answers("person ann 1 1 1\nmatter rain\nsee 0 ann rain wet", "since ann rain: 0")

    def test_tellers(self):
        self.assert_answers(WORLD, "tellers cid rain: 0 4", "tellers bob rain: 2", "tellers ann rain:",
                            "tellers cid sun:")

    def test_wordings(self):
        self.assert_answers(WORLD, "wordings bob rain: 2 damp 7 soaked", "wordings eve rain: 3 drops 5 damp",
                            "wordings cid rain: 0 wet 4 drips", "wordings ann rain: 1 pours", "wordings ann wind:")

    def test_apart(self):
        self.assert_answers(WORLD, "apart bob rain: 1 | ann cut ann", "apart ann rain: 0 cut", "apart bob sun: 0 cut",
                            "at 8", "apart cid rain: 2 | ann | eve cut ann eve",
                            "at 4", "apart cid rain: 1 | ann cut ann")

    def test_a_chain_of_several(self):
        self.assertRegex(answers(ROW, "apart bob rain"), "^apart bob rain: 1 \\| ann cid dan cut (ann|cid|dan)$")

    def test_cut(self):
        self.assert_answers(WORLD, "cut bob rain: holds", "cut cid rain: holds", "cut cid sun:", "cut ann wind:",
                            "at 4", "cut cid rain: ann", "cut bob rain: holds",
                            "at 1", "cut bob rain:", "cut cid rain:")

    def test_a_cut_of_several_names(self):
        people = [f"person {name} 1 1 1" for name in ("eve", "bob", "ann", "dan")] + ["person cid 1 1 4"]
        events = [f"see 1 {name} rain wet\ntell 2 {name} cid rain wet" for name in ("eve", "bob", "ann")]
        self.assert_answers("\n".join(people + ["matter rain"] + events), "cut cid rain: ann bob eve")

    def test_ground(self):
        self.assert_answers(ROW, "ground rain: | ann | cid by ann | dan by ann cid", "ground sun:",
                            "at 5", "ground rain: | ann | cid by ann",
                            "at 3", "ground rain: | ann",
                            "at 2", "ground rain:")

    def test_a_ground_with_several_chains(self):
        world = "\n".join(["person cid 1 1 2", "person ann 1 1 1", "person bob 1 1 1", "matter rain",
                           "see 1 ann rain wet", "see 1 bob rain wet", "tell 2 ann cid rain wet",
                           "tell 3 bob cid rain wet"])
        told = answers(world, "ground rain")
        self.assertRegex(told, "^ground rain: (\\| ann \\| bob|\\| bob \\| ann) \\| cid by (ann by bob|bob by ann)$")

    def test_leans_and_hidden(self):
        self.assert_answers(ROW, "leans dan rain: ann cid", "hidden dan rain: ann", "leans cid rain: ann",
                            "hidden cid rain:", "leans ann rain:", "hidden ann rain:", "leans bob rain:",
                            "hidden bob rain:", "leans eve sun:", "hidden eve sun:")

    def test_strike(self):
        self.assert_answers(ROW, "strike ann: dan rain cid rain", "strike cid: dan rain", "strike dan:", "strike eve:")
        self.assert_answers(WORLD, "strike ann: cid rain", "strike eve: cid rain", "strike bob:",
                            "at 7", "strike ann: bob rain cid rain")

    def test_quote(self):
        self.assert_answers(WORLD, "quote 0: true", "quote 1: false", "quote 2: true", "quote 3: false",
                            "quote 4: false", "quote 5: true", "quote 6: false", "quote 7: false", "quote 8: none")
        self.assert_answers(ROW, "quote 2: false", "quote 3: true", "quote 1: true")

    def test_a_world_without_events(self):
        rows = ["who rain:", "what ann:", "ground rain:", "strike ann:", "quote 0: none", "since bob rain: never",
                "tellers bob rain:", "wordings bob rain:", "apart bob rain: 0 cut", "leans bob rain:",
                "hidden bob rain:", "cut bob rain:"]
        world = "person ann 1 1 1\nperson bob 1 1 3\nmatter rain"
        self.assert_answers(world, *rows)
        self.assert_answers(world, "at 5", *rows)

    def test_the_question_s_words_are_parted_by_one_blank(self):
        self.assertEqual(answers(WORLD, "  since   bob    rain  \n\n   who sun"), "since bob rain: 9\nwho sun: bob")
        self.assertEqual(answers(WORLD, "quote    0 "), "quote 0: true")

    def test_nothing_ahead_behind_or_between(self):
        world = read_world(WORLD)
        told = answers(WORLD, "\n" + text_of(all_questions(world)) + "\n\n")
        rows = told.split("\n")
        self.assertEqual(len(rows), len(all_questions(world)))
        for row, question in zip(rows, all_questions(world)):
            self.assertEqual(row, " ".join(row.split()))
            self.assertTrue(row.startswith(text_of([question]) + ":"))
            self.assertEqual(row.count(":"), 1)

    def test_a_question_twice(self):
        self.assert_answers(WORLD, "who sun: bob", "who rain: bob ann eve cid", "who sun: bob")


class At(AskingTest):
    def test_no_at(self):
        self.assert_answers(WORLD, "who rain: bob ann eve cid", "since bob rain: 9")

    def test_one_at(self):
        self.assert_answers(WORLD, "what bob: sun rain", "at 3", "what bob: rain", "what cid:")

    def test_an_at_ahead_of_all_events(self):
        self.assert_answers(WORLD, "at 0", "who rain:", "quote 1: none", "since ann rain: never", "ground rain:")

    def test_just_at_an_event_ahead_of_it_and_behind_it(self):
        for time, holders in ((0, ""), (1, " ann"), (2, " ann eve"), (3, " bob ann eve"), (4, " bob ann eve"),
                              (5, " bob ann eve cid"), (7, " bob ann eve cid"), (8, " ann eve cid"),
                              (9, " bob ann eve cid")):
            self.assert_answers(WORLD, f"at {time}", f"who rain:{holders}")

    def test_an_at_behind_all_events(self):
        questions = text_of(all_questions(read_world(WORLD)))
        for time in (9, 10, 999999999):
            self.assertEqual(answers(WORLD, f"at {time}\n{questions}"), answers(WORLD, questions))

    def test_several_ats_back_and_forth(self):
        self.assert_answers(WORLD, "at 8", "who rain: ann eve cid", "at 2", "who rain: ann eve",
                            "at 9", "who rain: bob ann eve cid", "at 0", "who rain:", "at 8", "who rain: ann eve cid")

    def test_an_at_straight_behind_another(self):
        self.assert_answers(WORLD, "at 1", "at 8", "who rain: ann eve cid")
        self.assert_answers(WORLD, "at 8", "at 1", "who rain: ann")
        self.assert_answers(WORLD, "who sun: bob", "at 8", "at 1")

    def test_an_at_holds_up_to_the_next(self):
        self.assert_answers(WORLD, "at 3", "who rain: bob ann eve", "what cid:", "quote 0: none",
                            "since cid rain: never",
                            "at 5", "what cid: rain", "quote 0: true", "since cid rain: 5")

    def test_ats_alone(self):
        self.assertEqual(answers(WORLD, "at 3\nat 5\n\nat 1"), "")

    def test_since_is_of_the_moment(self):
        self.assert_answers(WORLD, "at 7", "since bob rain: 3", "at 8", "since bob rain: never",
                            "at 9", "since bob rain: 9")

    def test_numbers_of_events_are_those_of_the_whole_world(self):
        self.assert_answers(WORLD, "at 3", "tellers bob rain: 2", "wordings bob rain: 2 damp",
                            "wordings ann rain: 1 pours",
                            "at 6", "wordings eve rain: 3 drops 5 damp", "tellers cid rain: 0 4", "tellers eve rain: 5")

    def test_quotes_by_the_numbers_of_the_whole_world(self):
        self.assert_answers(WORLD, "at 3", "quote 0: none", "quote 1: false", "quote 2: true", "quote 3: false",
                            "quote 4: none", "quote 5: none", "quote 6: none", "quote 7: none", "quote 8: none")
        self.assert_answers(WORLD, "at 6", "quote 5: true", "at 5", "quote 5: none", "quote 4: false",
                            "quote 99: none")

    def test_events_of_one_time_stay_together(self):
        world = "\n".join(["person ann 1 1 1", "person bob 1 1 1", "matter rain", "tell 4 ann bob rain dry",
                           "see 4 ann rain wet", "tell 4 ann bob rain damp"])
        self.assert_answers(world, "at 3", "who rain:",
                            "at 4", "who rain: ann bob", "tellers bob rain: 2", "quote 0: false", "quote 2: true")


class Drawn(AskingTest):
    """All questions of some worlds, held against the functions of these names, of the worlds until the times."""

    def assert_world(self, world, times):
        questions = all_questions(world)
        for time in times:
            questions += [("at", time)] + all_questions(world)
        told = answers(shown_world(world), text_of(questions))
        self.assertEqual(told.split("\n"), answers_due(world, questions).split("\n"))

    def test_some_worlds(self):
        numbers = shuffled_numbers(67)
        for turn in range(8):
            times = drawn(numbers, (range(10), range(3), range(100)))
            world = some_world(numbers, PEOPLE[:4], MATTERS[:3], AGAINST[:1], 18, times)
            self.assert_world(world, [drawn(numbers, times) for at in range(3)] + [times[-1] + 1, 0])

    def test_a_world_of_the_most_of_all(self):
        numbers = shuffled_numbers(71)
        people = [(name, 5, drawn(numbers, (0, 0, 6)), drawn(numbers, (1, 1, 2, 3))) for name in NAMES + list("vwxyz")]
        matters = MATTERS + ["hail", "snow"]
        world = some_world(numbers, people, matters, AGAINST, 80, range(50))
        kept = [question for at, question in enumerate(all_questions(world)) if at % 3 == 0]
        questions = kept[:150] + [("at", 25)] + kept[:150] + [("at", 40)] + kept[:98]
        self.assertEqual(len(questions), 400)
        before = copy.deepcopy(world)
        told = answers(shown_world(world), text_of(questions))
        self.assertEqual(told, answers_due(world, questions))
        self.assertEqual(answers(shown_world(world), text_of(questions)), told)
        self.assertEqual(world, before)

    def test_the_same_texts_asked_by_turns(self):
        asked = [(WORLD, "who rain\nat 3\nwho rain"), (ROW, "ground rain\nstrike ann"), (WORLD, "at 8\nwho rain"),
                 (ROW, ""), (WORLD, "what bob\nquote 5")]
        wanted = [answers(*texts) for texts in asked]
        for turn in range(3):
            self.assert_no_name("who snow", 1)
            self.assert_bad("who")
            self.assertEqual([answers(*texts) for texts in asked[::-1]], wanted[::-1])


if __name__ == "__main__":
    unittest.main()
