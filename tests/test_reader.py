import itertools
import unittest

from quoteweave import errors
from quoteweave.errors import BadRow, Misplaced, NoName, TooMany, Twice, Unfinished
from quoteweave.reader import read_world
from quoteweave.rows import row_of

KEYWORDS = (
    "person matter against see tell by at who what since tellers wordings"
    " apart leans hidden strike quote ground cut"
).split()
REFUSALS = [BadRow, Misplaced, Twice, NoName, TooMany, Unfinished]
PEOPLE = ["ann", "bob", "cid", "dan", "eve", "fay", "gus", "hal", "ivy", "joe"]
MATTERS = ["rain", "sun", "wind", "snow", "hail", "fog"]
PAIRS = list(itertools.combinations(MATTERS, 2))
SECTIONS = ["person", "matter", "against", "event"]
MOST = {"person": 10, "matter": 6, "against": 15, "event": 80}

# A world with something in each section.
HEAD = ["person ann 5 3 2", "person bob 0 99 1", "person cid 7 7 4",
        "matter rain", "matter sun", "matter wind"]
TEXT = HEAD + ["against rain sun", "against wind sun",
               "see 12 ann rain wet", "tell 7 ann bob rain dry", "tell 9 bob cid rain wet by ann"]
WORLD = (
    [("ann", 5, 3, 2), ("bob", 0, 99, 1), ("cid", 7, 7, 4)],
    ["rain", "sun", "wind"],
    [("rain", "sun"), ("wind", "sun")],
    [("see", 12, "ann", "rain", "wet"), ("tell", 7, "ann", "bob", "rain", "dry", ()),
     ("tell", 9, "bob", "cid", "rain", "wet", ("ann",))],
)


def joined(rows):
    return "\n".join(rows)


def person_rows(many):
    return [f"person {name} {at} {at * 11} {at % 4 + 1}" for at, name in enumerate(PEOPLE[:many])]


def people_told(many):
    return [(name, at, at * 11, at % 4 + 1) for at, name in enumerate(PEOPLE[:many])]


def matter_rows(many):
    return [f"matter {name}" for name in MATTERS[:many]]


def against_rows(many):
    return [f"against {first} {second}" for first, second in PAIRS[:many]]


def event_rows(many):
    """Sees and tells by turns, times falling, of the first two people and the first matter."""
    return [f"see {500 - at} ann rain wet" if at % 2 == 0 else f"tell {500 - at} bob ann rain dry by bob"
            for at in range(many)]


def events_told(many):
    return [("see", 500 - at, "ann", "rain", "wet") if at % 2 == 0 else
            ("tell", 500 - at, "bob", "ann", "rain", "dry", ("bob",)) for at in range(many)]


def rows_of_sizes(people, matters, against, events):
    return person_rows(people) + matter_rows(matters) + against_rows(against) + event_rows(events)


def world_of_sizes(people, matters, against, events):
    return (people_told(people), MATTERS[:matters], PAIRS[:against], events_told(events))


def section_of(words):
    return words[0] if words[0] in SECTIONS else "event"


def names_asked(words):
    """The people and the matters that a row's words name without telling them."""
    if words[0] == "against":
        return [], words[1:3]
    if words[0] == "see":
        return [words[2]], [words[3]]
    if words[0] == "tell":
        return words[2:4] + words[7:], [words[4]]
    return [], []


def faults_of(ahead, words):
    """All refusals but BadRow that a row is due behind the rows ahead of it."""
    faults = []
    section = section_of(words)
    at = SECTIONS.index(section)
    if any(SECTIONS.index(section_of(other)) > at for other in ahead):
        faults.append(Misplaced)
    same = [other for other in ahead if section_of(other) == section]
    if section in ("person", "matter") and any(other[1] == words[1] for other in same):
        faults.append(Twice)
    if section == "against" and any({other[1], other[2]} == {words[1], words[2]} for other in same):
        faults.append(Twice)
    people, matters = names_asked(words)
    told = [(other[0], other[1]) for other in ahead if other[0] in ("person", "matter")]
    asked = [("person", name) for name in people] + [("matter", name) for name in matters]
    if not all(each in told for each in asked):
        faults.append(NoName)
    if len(same) + 1 > MOST[section]:
        faults.append(TooMany)
    return faults


def refusal_due(text):
    """What [6] asks, found in another way than the program's: all faults of a row, then the first."""
    ahead = []
    rows = text.split("\n")
    for place, row in enumerate(rows, start=1):
        try:
            words = row_of(row, place)
        except BadRow:
            return BadRow, place
        if words is None:
            continue
        faults = faults_of(ahead, words)
        if faults:
            return min(faults, key=REFUSALS.index), place
        ahead.append(words)
    if {"person", "matter"} - {words[0] for words in ahead}:
        return Unfinished, len(rows)
    return None, None


class ReaderTest(unittest.TestCase):
    def assert_read(self, text, world):
        told = read_world(text)
        self.assertEqual(told, world, text)
        self.assert_kinds(told)

    def assert_kinds(self, world):
        self.assertIs(type(world), tuple)
        self.assertEqual([type(part) for part in world], [list] * 4)
        people, matters, against, events = world
        for person in people:
            self.assertIs(type(person), tuple)
            self.assertEqual([type(value) for value in person], [str, int, int, int])
        for matter in matters:
            self.assertIs(type(matter), str)
        for pair in against:
            self.assertIs(type(pair), tuple)
            self.assertEqual([type(value) for value in pair], [str, str])
        for event in events:
            self.assertIs(type(event), tuple)
            kinds = [str, int, str, str, str] + ([str, tuple] if event[0] == "tell" else [])
            self.assertEqual([type(value) for value in event], kinds)
            if event[0] == "tell":
                self.assertEqual([type(name) for name in event[6]], [str] * len(event[6]))

    def assert_refused(self, text, refusal, place):
        with self.assertRaises(errors.WorldError, msg=text) as taken:
            read_world(text)
        self.assertIs(type(taken.exception), refusal, text)
        self.assertIs(type(taken.exception.place), int)
        self.assertEqual(taken.exception.place, place, text)

    def assert_last_refused(self, rows, refusal):
        """The last row is refused, and those ahead of it are not; with empty rows ahead, too."""
        ahead = refusal_due(joined(rows[:-1]))[0]
        self.assertIn(ahead, (None, Unfinished), rows)
        self.assert_refused(joined(rows), refusal, len(rows))
        for empty in ([""], ["", "  ", ""]):
            self.assert_refused(joined(empty + rows), refusal, len(empty) + len(rows))
            self.assert_refused(joined(rows[:-1] + empty + rows[-1:]), refusal, len(empty) + len(rows))
            self.assert_refused(joined(rows + empty), refusal, len(rows))

    def assert_as_due(self, text):
        refusal, place = refusal_due(text)
        if refusal is None:
            self.assert_kinds(read_world(text))
        else:
            self.assert_refused(text, refusal, place)


class Worlds(ReaderTest):
    def test_an_ordinary_world(self):
        self.assert_read(joined(TEXT), WORLD)

    def test_the_least_world(self):
        self.assert_read("person ann 0 0 1\nmatter rain", ([("ann", 0, 0, 1)], ["rain"], [], []))

    def test_each_number_of_people(self):
        for many in range(1, 11):
            self.assert_read(joined(rows_of_sizes(many, 1, 0, 0)), world_of_sizes(many, 1, 0, 0))
            if many > 1:
                self.assert_read(joined(rows_of_sizes(many, 6, 15, 9)), world_of_sizes(many, 6, 15, 9))

    def test_each_number_of_matters(self):
        for many in range(1, 7):
            self.assert_read(joined(rows_of_sizes(1, many, 0, 0)), world_of_sizes(1, many, 0, 0))
            pairs = many * (many - 1) // 2
            rows = [row for row in against_rows(15) if set(row.split()[1:]) <= set(MATTERS[:many])]
            self.assertEqual(len(rows), pairs)
            told = read_world(joined(person_rows(2) + matter_rows(many) + rows + event_rows(3)))
            self.assertEqual([len(part) for part in told], [2, many, pairs, 3])

    def test_each_number_of_againsts(self):
        for many in range(0, 16):
            self.assert_read(joined(rows_of_sizes(1, 6, many, 0)), world_of_sizes(1, 6, many, 0))
            self.assert_read(joined(rows_of_sizes(2, 6, many, 5)), world_of_sizes(2, 6, many, 5))

    def test_each_number_of_events(self):
        for many in range(0, 81):
            self.assert_read(joined(rows_of_sizes(2, 1, 0, many)), world_of_sizes(2, 1, 0, many))

    def test_the_most_of_all(self):
        self.assert_read(joined(rows_of_sizes(10, 6, 15, 80)), world_of_sizes(10, 6, 15, 80))

    def test_eighty_sees_or_eighty_tells(self):
        for row in ("see 1 ann rain wet", "tell 1 ann bob rain wet"):
            told = read_world(joined(HEAD + [row] * 80))
            self.assertEqual(told[3], [told[3][0]] * 80)

    def test_the_order_of_the_text(self):
        for people in itertools.permutations(HEAD[:3]):
            for matters in itertools.permutations(HEAD[3:]):
                told = read_world(joined(people + matters))
                self.assertEqual([person[0] for person in told[0]], [row.split()[1] for row in people])
                self.assertEqual(told[1], [row.split()[1] for row in matters])
        for events in itertools.permutations(range(3)):
            told = read_world(joined(TEXT[:8] + [TEXT[8 + at] for at in events]))
            self.assertEqual(told[3], [WORLD[3][at] for at in events])

    def test_againsts_as_they_stand(self):
        for first, second in itertools.permutations(["rain", "sun", "wind"], 2):
            told = read_world(joined(HEAD + [f"against {first} {second}"]))
            self.assertEqual(told[2], [(first, second)])
        told = read_world(joined(HEAD + ["against wind rain", "against sun wind", "against rain sun"]))
        self.assertEqual(told[2], [("wind", "rain"), ("sun", "wind"), ("rain", "sun")])

    def test_a_name_that_is_a_person_s_and_a_matter_s(self):
        rows = ["person rain 1 2 3", "person sun 4 5 4", "matter sun", "matter rain", "against sun rain",
                "see 1 rain rain rain", "see 2 rain sun sun", "tell 3 sun rain sun rain by rain sun"]
        self.assert_read(joined(rows), (
            [("rain", 1, 2, 3), ("sun", 4, 5, 4)], ["sun", "rain"], [("sun", "rain")],
            [("see", 1, "rain", "rain", "rain"), ("see", 2, "rain", "sun", "sun"),
             ("tell", 3, "sun", "rain", "sun", "rain", ("rain", "sun"))]))

    def test_ranks_floors_and_needs_at_their_bounds(self):
        for rank, floor, needs in itertools.product((0, 1, 98, 99), (0, 1, 98, 99), (1, 2, 3, 4)):
            self.assert_read(f"person ann {rank} {floor} {needs}\nmatter rain",
                             ([("ann", rank, floor, needs)], ["rain"], [], []))

    def test_names_of_one_and_of_eight_letters(self):
        self.assert_read("person a 1 1 1\nperson abcdefgh 1 1 1\nmatter z\nmatter zyxwvuts\nsee 1 a z b",
                         ([("a", 1, 1, 1), ("abcdefgh", 1, 1, 1)], ["z", "zyxwvuts"], [],
                          [("see", 1, "a", "z", "b")]))


class Events(ReaderTest):
    def assert_events(self, rows, events):
        self.assert_read(joined(HEAD + rows), (WORLD[0], WORLD[1], [], events))

    def test_quotes_of_none_to_six_people(self):
        for many in range(0, 7):
            for names in itertools.product(("ann", "bob", "cid"), repeat=many):
                row = " ".join(["tell 7 ann bob rain wet"] + (["by"] + list(names) if many else []))
                self.assert_events([row], [("tell", 7, "ann", "bob", "rain", "wet", names)])

    def test_each_teller_and_hearer(self):
        for teller, hearer in itertools.permutations(("ann", "bob", "cid"), 2):
            self.assert_events([f"tell 7 {teller} {hearer} sun wet by {hearer} {teller}"],
                               [("tell", 7, teller, hearer, "sun", "wet", (hearer, teller))])

    def test_times_in_any_order_and_at_their_bounds(self):
        for times in itertools.permutations((0, 1, 12, 999999998, 999999999)):
            self.assert_events([f"see {time} ann rain wet" for time in times],
                               [("see", time, "ann", "rain", "wet") for time in times])
            self.assert_events([f"tell {time} ann bob rain wet" for time in times],
                               [("tell", time, "ann", "bob", "rain", "wet", ()) for time in times])

    def test_events_alike_are_all_kept(self):
        self.assert_events(["see 1 ann rain wet"] * 3, [("see", 1, "ann", "rain", "wet")] * 3)

    def test_wordings_that_are_keywords(self):
        for word in KEYWORDS:
            self.assert_events(
                [f"see 1 ann rain {word}", f"tell 1 ann bob rain {word}", f"tell 1 ann bob rain {word} by cid"],
                [("see", 1, "ann", "rain", word), ("tell", 1, "ann", "bob", "rain", word, ()),
                 ("tell", 1, "ann", "bob", "rain", word, ("cid",))])

    def test_wordings_that_are_names(self):
        self.assert_events(["see 1 ann rain ann", "tell 1 ann bob rain sun by bob"],
                           [("see", 1, "ann", "rain", "ann"), ("tell", 1, "ann", "bob", "rain", "sun", ("bob",))])

    def test_a_wording_needs_not_be_told(self):
        self.assert_events(["see 1 ann rain zoe"], [("see", 1, "ann", "rain", "zoe")])


class Rows(ReaderTest):
    def test_blanks_ahead_between_and_behind(self):
        for ahead, between, behind in itertools.product((0, 1, 5), (1, 2, 7), (0, 1, 5)):
            rows = [" " * ahead + row.replace(" ", " " * between) + " " * behind for row in TEXT]
            self.assert_read(joined(rows), WORLD)

    def test_a_row_without_a_word_anywhere(self):
        for at in range(len(TEXT) + 1):
            for empty in ([""], [" "], ["     "], ["", ""], ["", "  ", ""]):
                self.assert_read(joined(TEXT[:at] + empty + TEXT[at:]), WORLD)

    def test_rows_without_a_word_everywhere(self):
        self.assert_read("\n" + "\n   \n\n".join(TEXT) + "\n\n  \n", WORLD)

    def test_line_ends_at_the_end(self):
        for many in range(1, 5):
            self.assert_read(joined(TEXT) + "\n" * many, WORLD)
            self.assert_read(joined(TEXT) + "\n  " * many, WORLD)

    def test_four_hundred_rows_and_more(self):
        for many in (400, 401, 450):
            empty = [""] * (many - len(TEXT))
            self.assertEqual(len(TEXT + empty), many)
            self.assert_read(joined(TEXT + empty), WORLD)
            self.assert_read(joined(empty + TEXT), WORLD)
            self.assert_refused(joined(TEXT + empty + ["%"]), BadRow, many + 1)

    def test_rows_of_two_hundred_signs_and_more(self):
        for many in (200, 201, 260):
            self.assert_read(joined([row.ljust(many) for row in TEXT]), WORLD)
            self.assert_read(joined([row.rjust(many) for row in TEXT]), WORLD)
            self.assert_read(joined([" " * many] + TEXT), WORLD)

    def test_rows_are_parted_by_line_ends_alone(self):
        for sign in (" ", ";", "|", ",", ""):
            self.assert_refused(sign.join(HEAD), BadRow, 1)
            self.assert_refused("\n" + sign.join(HEAD[:2]) + "\n" + joined(HEAD[2:]), BadRow, 2)


class Bad(ReaderTest):
    def test_a_row_of_no_form_at_each_place(self):
        bad = ["who rain", "persons ann 1 1 1", "person ann 1 1", "matter", "see 1 ann rain", "%", "x",
               "tell 1 ann bob rain wet by", "tell 1 ann bob rain wet by" + " ann" * 7, "against rain"]
        for row in bad:
            for at in range(len(TEXT) + 1):
                self.assert_refused(joined(TEXT[:at] + [row] + TEXT[at:]), BadRow, at + 1)

    def test_numbers_out_of_their_range(self):
        for row in ("person dan 100 1 1", "person dan 1 100 1", "person dan 1 1 0", "person dan 1 1 5",
                    "person dan 01 1 1", "person dan -1 1 1"):
            self.assert_last_refused(HEAD[:3] + [row], BadRow)
        for row in ("see 1000000000 ann rain wet", "see 01 ann rain wet", "tell 1000000000 ann bob rain wet",
                    "tell -1 ann bob rain wet"):
            self.assert_last_refused(TEXT + [row], BadRow)

    def test_two_alike_that_are_to_be_unlike(self):
        self.assert_last_refused(HEAD + ["against wind wind"], BadRow)
        self.assert_last_refused(TEXT + ["tell 1 ann ann rain wet"], BadRow)
        self.assert_last_refused(TEXT + ["tell 1 ann ann rain wet by bob"], BadRow)

    def test_keywords_as_names(self):
        for word in KEYWORDS:
            self.assert_last_refused([f"person {word} 1 1 1"], BadRow)
            self.assert_last_refused(HEAD[:3] + [f"matter {word}"], BadRow)
            self.assert_last_refused(HEAD + [f"tell 1 ann bob rain wet by {word}"], BadRow)


class OutOfPlace(ReaderTest):
    EARLIER = {"person": ["person dan 1 1 1"], "matter": ["matter snow"], "against": ["against rain wind"]}
    LATER = {"matter": ["matter hail"], "against": ["against rain sun"],
             "event": ["see 1 ann rain wet", "tell 1 ann bob rain wet", "tell 1 ann bob rain wet by cid"]}

    def test_each_section_behind_each_later_one(self):
        for earlier, later in itertools.combinations(SECTIONS, 2):
            for row, behind in itertools.product(self.EARLIER[earlier], self.LATER[later]):
                self.assert_last_refused(HEAD + [behind, row], Misplaced)
                self.assert_kinds(read_world(joined(sorted(HEAD + [behind, row], key=self.at_of))))

    def at_of(self, row):
        return SECTIONS.index(section_of(row.split()))

    def test_behind_several_later_rows(self):
        for row in ("person dan 1 1 1", "matter snow", "against rain wind"):
            self.assert_last_refused(TEXT + [row], Misplaced)

    def test_a_person_behind_a_matter_alone(self):
        self.assert_last_refused(["matter rain", "person ann 1 1 1"], Misplaced)
        self.assert_last_refused(["person ann 1 1 1", "matter rain", "person bob 1 1 1"], Misplaced)

    def test_a_section_left_out_is_no_fault_of_place(self):
        self.assert_read(joined(HEAD + TEXT[8:]), (WORLD[0], WORLD[1], [], WORLD[3]))

    def test_sees_and_tells_are_one_section(self):
        for rows in itertools.permutations(TEXT[8:]):
            self.assertEqual(len(read_world(joined(HEAD + list(rows)))[3]), 3)


class ToldBefore(ReaderTest):
    def test_a_person_s_name(self):
        for many in range(1, 10):
            for name in PEOPLE[:many]:
                self.assert_last_refused(person_rows(many) + [f"person {name} 98 97 4"], Twice)
        self.assert_last_refused(["person ann 1 1 1", "person ann 1 1 1"], Twice)

    def test_a_matter_s_name(self):
        for many in range(1, 6):
            for name in MATTERS[:many]:
                self.assert_last_refused(person_rows(1) + matter_rows(many) + [f"matter {name}"], Twice)

    def test_a_person_s_name_is_no_matter_s(self):
        self.assert_read("person ann 1 1 1\nmatter ann", ([("ann", 1, 1, 1)], ["ann"], [], []))

    def test_a_pair_either_way_about(self):
        head = person_rows(1) + matter_rows(6)
        for many in range(1, 15):
            for first, second in PAIRS[:many]:
                for row in (f"against {first} {second}", f"against {second} {first}"):
                    self.assert_last_refused(head + against_rows(many) + [row], Twice)

    def test_a_pair_with_one_matter_told_before(self):
        told = read_world(joined(HEAD + ["against rain sun", "against sun wind", "against wind rain"]))
        self.assertEqual(told[2], [("rain", "sun"), ("sun", "wind"), ("wind", "rain")])

    def test_an_event_told_before(self):
        self.assertEqual(len(read_world(joined(TEXT + TEXT[8:]))[3]), 6)


class Strange(ReaderTest):
    def test_each_matter_of_an_against(self):
        for row in ("against snow sun", "against sun snow", "against snow hail", "against ann sun", "against sun ann"):
            self.assert_last_refused(HEAD + [row], NoName)
            self.assert_last_refused(TEXT[:8] + [row], NoName)

    def test_the_person_and_the_matter_of_a_see(self):
        for row in ("see 1 zoe rain wet", "see 1 ann snow wet", "see 1 zoe snow wet", "see 1 rain rain wet",
                    "see 1 ann ann wet", "see 1 rain ann wet"):
            self.assert_last_refused(HEAD + [row], NoName)
            self.assert_last_refused(TEXT + [row], NoName)

    def test_each_name_of_a_tell(self):
        for quote in ("", " by cid", " by cid ann bob ann cid cid"):
            for row in ("tell 1 zoe bob rain wet", "tell 1 ann zoe rain wet", "tell 1 ann bob snow wet",
                        "tell 1 rain bob rain wet", "tell 1 ann rain rain wet", "tell 1 ann bob ann wet"):
                self.assert_last_refused(HEAD + [row + quote], NoName)
                self.assert_last_refused(TEXT + [row + quote], NoName)

    def test_each_person_of_a_quote(self):
        for many in range(1, 7):
            for at in range(many):
                for name in ("zoe", "rain", "wet"):
                    quote = ["ann", "bob", "cid", "ann", "bob", "cid"][:many]
                    quote[at] = name
                    self.assert_last_refused(HEAD + ["tell 1 ann bob rain wet by " + " ".join(quote)], NoName)

    def test_a_name_of_a_part_or_with_more(self):
        for name in ("an", "anna", "a", "nn", "annbob"):
            self.assert_last_refused(HEAD + [f"see 1 {name} rain wet"], NoName)
        for name in ("rai", "rains", "r", "rainsun"):
            self.assert_last_refused(HEAD + [f"see 1 ann {name} wet"], NoName)
            self.assert_last_refused(HEAD + [f"against {name} sun"], NoName)

    def test_rows_without_anybody_told(self):
        self.assert_last_refused(["against rain sun"], NoName)
        self.assert_last_refused(["see 1 ann rain wet"], NoName)
        self.assert_last_refused(["tell 1 ann bob rain wet"], NoName)
        self.assert_last_refused(["person ann 1 1 1", "see 1 ann rain wet"], NoName)
        self.assert_last_refused(["matter rain", "see 1 ann rain wet"], NoName)
        self.assert_last_refused(["person ann 1 1 1", "matter rain", "against rain sun"], NoName)


class OneMore(ReaderTest):
    PEOPLE_FULL = person_rows(10)
    MATTERS_FULL = person_rows(2) + matter_rows(6)
    AGAINST_FULL = MATTERS_FULL + against_rows(15)
    EVENTS_FULL = AGAINST_FULL + event_rows(80)

    def test_an_eleventh_person(self):
        self.assert_last_refused(self.PEOPLE_FULL + ["person kim 1 1 1"], TooMany)
        self.assert_refused(joined(self.PEOPLE_FULL + ["person kim 1 1 1", "person lea 1 1 1", "matter rain"]),
                            TooMany, 11)

    def test_a_seventh_matter(self):
        self.assert_last_refused(self.MATTERS_FULL + ["matter dew"], TooMany)
        self.assert_last_refused(self.MATTERS_FULL + ["matter ann"], TooMany)

    def test_an_eighty_first_event(self):
        for row in ("see 1 ann rain wet", "tell 1 ann bob sun wet", "tell 1 ann bob rain wet by ann bob"):
            self.assert_last_refused(self.EVENTS_FULL + [row], TooMany)
            self.assert_last_refused(HEAD + event_rows(80) + [row], TooMany)
            self.assert_refused(joined(self.EVENTS_FULL + [row, row]), TooMany, 104)

    def test_an_eleventh_person_told_before(self):
        for name in PEOPLE:
            self.assert_last_refused(self.PEOPLE_FULL + [f"person {name} 1 1 1"], Twice)

    def test_a_seventh_matter_told_before(self):
        for name in MATTERS:
            self.assert_last_refused(self.MATTERS_FULL + [f"matter {name}"], Twice)

    def test_a_sixteenth_pair(self):
        for first, second in itertools.permutations(MATTERS, 2):
            self.assert_last_refused(self.AGAINST_FULL + [f"against {first} {second}"], Twice)
        for row in ("against rain dew", "against dew rain", "against dew mist", "against ann bob"):
            self.assert_last_refused(self.AGAINST_FULL + [row], NoName)

    def test_an_eighty_first_event_with_a_strange_name(self):
        for row in ("see 1 zoe rain wet", "see 1 ann dew wet", "tell 1 zoe bob rain wet", "tell 1 ann zoe rain wet",
                    "tell 1 ann bob dew wet", "tell 1 ann bob rain wet by zoe", "tell 1 ann bob rain wet by ann zoe"):
            self.assert_last_refused(self.EVENTS_FULL + [row], NoName)


class TwoFaults(ReaderTest):
    """A row that has two faults at once: of each two of [6]'s order, the first is told."""

    FULL = person_rows(10) + matter_rows(6) + against_rows(15) + event_rows(80)

    def test_bad_row_ahead_of_misplaced(self):
        for row in ("person dan 100 1 1", "person dan 1 1 5", "person by 1 1 1", "matter by", "matter",
                    "against wind wind", "against rain"):
            self.assert_last_refused(TEXT + [row], BadRow)

    def test_bad_row_ahead_of_twice(self):
        self.assert_last_refused(HEAD[:3] + ["person ann 100 1 1"], BadRow)
        self.assert_last_refused(HEAD[:3] + ["person ann 1 1 0"], BadRow)
        self.assert_last_refused(HEAD + ["matter rain rain"], BadRow)
        self.assert_last_refused(TEXT[:8] + ["against rain sun wind"], BadRow)

    def test_bad_row_ahead_of_no_name(self):
        for row in ("against dew dew", "see 01 zoe rain wet", "see 1 zoe rain", "tell 1 zoe zoe rain wet",
                    "tell 1 ann ann dew wet", "tell 1 ann bob rain wet by zoe by", "tell 1 zoe bob rain wet by"):
            self.assert_last_refused(HEAD + [row], BadRow)

    def test_bad_row_ahead_of_too_many(self):
        self.assert_last_refused(person_rows(10) + ["person kim 1 1 9"], BadRow)
        self.assert_last_refused(person_rows(1) + matter_rows(6) + ["matter Dew"], BadRow)
        self.assert_last_refused(self.FULL[:31] + ["against rain rain"], BadRow)
        self.assert_last_refused(self.FULL + ["see x ann rain wet"], BadRow)
        self.assert_last_refused(self.FULL + ["tell 1 ann ann rain wet"], BadRow)

    def test_misplaced_ahead_of_twice(self):
        for row in ("person ann 1 1 1", "matter rain", "against rain sun", "against sun rain"):
            self.assert_last_refused(TEXT + [row], Misplaced)
        self.assert_last_refused(HEAD + ["person ann 5 3 2"], Misplaced)

    def test_misplaced_ahead_of_no_name(self):
        for row in ("against rain dew", "against dew rain", "against dew mist", "against ann bob"):
            self.assert_last_refused(TEXT + [row], Misplaced)

    def test_misplaced_ahead_of_too_many(self):
        self.assert_last_refused(person_rows(10) + ["matter rain", "person kim 1 1 1"], Misplaced)
        self.assert_last_refused(self.FULL[:17] + ["matter dew"], Misplaced)
        self.assert_last_refused(self.FULL + ["person kim 1 1 1"], Misplaced)
        self.assert_last_refused(self.FULL + ["matter dew"], Misplaced)

    def test_misplaced_ahead_of_two_more(self):
        for row in ("person ann 1 1 1", "matter rain", "against rain sun", "against dew rain"):
            self.assert_last_refused(self.FULL + [row], Misplaced)

    def test_twice_ahead_of_too_many(self):
        self.assert_last_refused(person_rows(10) + ["person joe 1 1 1"], Twice)
        self.assert_last_refused(self.FULL[:16] + ["matter fog"], Twice)
        self.assert_last_refused(self.FULL[:31] + ["against fog rain"], Twice)

    def test_no_name_ahead_of_too_many(self):
        self.assert_last_refused(self.FULL[:31] + ["against fog dew"], NoName)
        self.assert_last_refused(self.FULL + ["see 1 kim rain wet"], NoName)
        self.assert_last_refused(self.FULL + ["tell 1 ann bob rain wet by kim"], NoName)


class TwoRows(ReaderTest):
    # Each is refused behind the whole of TEXT.
    FAULTY = [("who rain", BadRow), ("matter snow", Misplaced), ("see 1 zoe rain wet", NoName),
              ("person ann 1 1 1", Misplaced)]

    def test_the_first_of_two_bad_rows(self):
        for (first, refusal), (second, other) in itertools.permutations(self.FAULTY, 2):
            self.assert_refused(joined(TEXT + [first, second]), refusal, len(TEXT) + 1)
            self.assert_refused(joined(TEXT + ["", first, "", second]), refusal, len(TEXT) + 2)

    def test_a_later_fault_of_each_kind_behind_one_of_another(self):
        self.assert_refused(joined(["person ann 1 1 1", "person ann 1 1 1", "matter by"]), Twice, 2)
        self.assert_refused(joined(person_rows(10) + ["person kim 1 1 1", "person by 1 1 1"]), TooMany, 11)
        self.assert_refused(joined(HEAD + ["against rain dew", "tell"]), NoName, 7)
        self.assert_refused(joined(["matter rain", "person ann 1 1 1", "matter rain"]), Misplaced, 2)

    def test_a_refused_row_goes_ahead_of_unfinished(self):
        self.assert_refused("matter rain\nmatter rain", Twice, 2)
        self.assert_refused("person ann 1 1 1\n\nperson ann 1 1 1\n", Twice, 3)
        self.assert_refused("\nwho rain\n\n", BadRow, 2)
        self.assert_refused("see 1 ann rain wet\n", NoName, 1)
        self.assert_refused(joined(person_rows(10) + ["person kim 1 1 1", ""]), TooMany, 11)


class NotFinished(ReaderTest):
    def test_a_text_without_a_word(self):
        self.assert_refused("", Unfinished, 1)
        for many in range(1, 12):
            self.assert_refused("\n" * many, Unfinished, many + 1)
            self.assert_refused(joined(["  "] * many), Unfinished, many)

    def test_no_person(self):
        for many in range(1, 7):
            self.assert_refused(joined(matter_rows(many)), Unfinished, many)
        self.assert_refused(joined(matter_rows(6) + against_rows(15)), Unfinished, 21)
        self.assert_refused("matter rain\nmatter sun\nagainst sun rain\n", Unfinished, 4)

    def test_no_matter(self):
        for many in range(1, 11):
            self.assert_refused(joined(person_rows(many)), Unfinished, many)
        self.assert_refused("person ann 1 1 1\n", Unfinished, 2)

    def test_the_number_of_all_rows(self):
        for row in ("person ann 1 1 1", "matter rain"):
            for ahead, behind in itertools.product(range(4), repeat=2):
                self.assert_refused("\n" * ahead + row + "\n" * behind, Unfinished, ahead + 1 + behind)
                self.assert_refused(joined(["  "] * ahead + [row] + [" "] * behind), Unfinished, ahead + 1 + behind)


class AsDue(ReaderTest):
    """Texts near a good one, held against all faults of each row."""

    def test_one_row_moved(self):
        for at, to in itertools.product(range(len(TEXT)), repeat=2):
            rows = TEXT[:at] + TEXT[at + 1:]
            self.assert_as_due(joined(rows[:to] + [TEXT[at]] + rows[to:]))

    def test_one_row_left_out_or_doubled(self):
        for at in range(len(TEXT)):
            self.assert_as_due(joined(TEXT[:at] + TEXT[at + 1:]))
            for to in range(len(TEXT) + 1):
                self.assert_as_due(joined(TEXT[:to] + [TEXT[at]] + TEXT[to:]))

    def test_two_rows_left_out(self):
        for first, second in itertools.combinations(range(len(TEXT)), 2):
            self.assert_as_due(joined([row for at, row in enumerate(TEXT) if at not in (first, second)]))

    def test_one_word_put_in_the_place_of_another(self):
        words = ["ann", "bob", "cid", "rain", "sun", "wind", "zoe", "by", "person", "matter", "see", "tell",
                 "0", "1", "4", "5", "99", "100"]
        for at, row in enumerate(TEXT):
            parts = row.split()
            for place, word in itertools.product(range(len(parts)), words):
                changed = " ".join(parts[:place] + [word] + parts[place + 1:])
                self.assert_as_due(joined(TEXT[:at] + [changed] + TEXT[at + 1:]))

    def test_all_orders_of_a_few_rows(self):
        rows = ["person ann 1 1 1", "person bob 1 1 1", "matter rain", "matter sun", "against rain sun",
                "tell 1 ann bob rain wet"]
        for many in range(len(rows) + 1):
            for chosen in itertools.permutations(rows, many):
                self.assert_as_due(joined(chosen))


class Own(ReaderTest):
    def test_no_two_lists_are_one(self):
        for text in (joined(TEXT), "person ann 1 1 1\nmatter rain"):
            parts = list(read_world(text)) + list(read_world(text))
            for one, other in itertools.combinations(parts, 2):
                self.assertIsNot(one, other)

    def test_told_lists_that_are_changed(self):
        text = joined(TEXT)
        kept = read_world(text)
        told = read_world(text)
        for part in told:
            part.append("other")
            part.reverse()
        self.assertEqual(kept, WORLD)
        self.assert_read(text, WORLD)
        for part in told:
            part.clear()
        self.assertEqual(kept, WORLD)
        self.assert_read(text, WORLD)
        self.assert_read(joined(HEAD), (WORLD[0], WORLD[1], [], []))

    def test_the_same_whatever_was_asked_between(self):
        for turn in range(3):
            self.assert_read(joined(TEXT), WORLD)
            self.assert_refused(joined(TEXT + ["matter snow"]), Misplaced, 12)
            self.assert_refused("", Unfinished, 1)
            self.assert_read("person ann 0 0 1\nmatter rain", ([("ann", 0, 0, 1)], ["rain"], [], []))
            self.assert_refused(joined(TEXT[:4] * 2), Misplaced, 5)

    def test_a_refusal_is_of_its_own_class_alone(self):
        texts = ["x", "matter a\nperson b 1 1 1", "matter a\nmatter a", "matter a\nagainst a b",
                 joined(person_rows(10) + ["person kim 1 1 1"]), ""]
        for text, refusal in zip(texts, REFUSALS, strict=True):
            with self.assertRaises(errors.WorldError) as taken:
                read_world(text)
            self.assertEqual([each for each in REFUSALS if isinstance(taken.exception, each)], [refusal])


if __name__ == "__main__":
    unittest.main()
