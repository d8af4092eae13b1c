import copy
import itertools
import unittest

from quoteweave.reader import read_world
from quoteweave.showing import shown_world

PEOPLE = ["ann", "bob", "cid", "dan", "eve", "fay", "gus", "hal", "ivy", "joe"]
MATTERS = ["rain", "sun", "wind", "snow", "hail", "fog"]
PAIRS = list(itertools.combinations(MATTERS, 2))
KEYWORDS = (
    "person matter against see tell by at who what since tellers wordings"
    " apart leans hidden strike quote ground cut"
).split()
WORLD = (
    [("ann", 5, 3, 2), ("bob", 0, 99, 1), ("cid", 7, 7, 4)],
    ["rain", "sun", "wind"],
    [("rain", "sun"), ("wind", "sun")],
    [("see", 12, "ann", "rain", "wet"), ("tell", 7, "ann", "bob", "rain", "dry", ()),
     ("tell", 9, "bob", "cid", "rain", "wet", ("ann",)), ("see", 0, "cid", "sun", "by")],
)
TEXT = """person ann 5 3 2
person bob 0 99 1
person cid 7 7 4
matter rain
matter sun
matter wind
against rain sun
against wind sun
see 12 ann rain wet
tell 7 ann bob rain dry
tell 9 bob cid rain wet by ann
see 0 cid sun by"""


def world_with(events):
    return (WORLD[0], WORLD[1], [], events)


def world_of_sizes(people, matters, against, events):
    told = [("see", at, "ann", "rain", "wet") if at % 3 == 0 else
            ("tell", 900 - at, "bob", "ann", "rain", "dry", ("bob", "ann") * (at % 4)) for at in range(events)]
    return ([(name, at, 99 - at, at % 4 + 1) for at, name in enumerate(PEOPLE[:people])],
            MATTERS[:matters], PAIRS[:against], told)


class ShowingTest(unittest.TestCase):
    def assert_shown(self, world, text):
        before = copy.deepcopy(world)
        shown = shown_world(world)
        self.assertIs(type(shown), str)
        self.assertEqual(shown, text)
        self.assertEqual(world, before)

    def assert_read_again(self, world):
        before = copy.deepcopy(world)
        shown = shown_world(world)
        self.assertEqual(read_world(shown), world)
        self.assertEqual(world, before)
        self.assertEqual(shown_world(read_world(shown)), shown)
        for row in shown.split("\n"):
            self.assertEqual(row, " ".join(row.split()))
            self.assertNotEqual(row, "")


class Shown(ShowingTest):
    def test_an_ordinary_world(self):
        self.assert_shown(WORLD, TEXT)
        self.assert_read_again(WORLD)

    def test_the_least_world(self):
        world = ([("ann", 0, 0, 1)], ["rain"], [], [])
        self.assert_shown(world, "person ann 0 0 1\nmatter rain")
        self.assert_read_again(world)

    def test_without_againsts(self):
        world = (WORLD[0], WORLD[1], [], WORLD[3])
        self.assert_shown(world, "\n".join(TEXT.split("\n")[:6] + TEXT.split("\n")[8:]))
        self.assert_read_again(world)

    def test_without_events(self):
        world = (WORLD[0], WORLD[1], WORLD[2], [])
        self.assert_shown(world, "\n".join(TEXT.split("\n")[:8]))
        self.assert_read_again(world)

    def test_without_either(self):
        world = (WORLD[0], WORLD[1], [], [])
        self.assert_shown(world, "\n".join(TEXT.split("\n")[:6]))
        self.assert_read_again(world)

    def test_the_order_of_each_list_is_kept(self):
        world = tuple(list(reversed(part)) for part in WORLD)
        rows = TEXT.split("\n")
        self.assert_shown(world, "\n".join(rows[2::-1] + rows[5:2:-1] + rows[7:5:-1] + rows[:7:-1]))
        self.assert_read_again(world)


class Forms(ShowingTest):
    HEAD = "\n".join(TEXT.split("\n")[:6]) + "\n"

    def test_a_person(self):
        for rank, floor, needs in itertools.product((0, 9, 10, 99), (0, 9, 10, 99), (1, 2, 3, 4)):
            world = ([("x", rank, floor, needs)], ["y"], [], [])
            self.assert_shown(world, f"person x {rank} {floor} {needs}\nmatter y")
            self.assert_read_again(world)

    def test_an_against_as_it_stands(self):
        for pair in itertools.permutations(WORLD[1], 2):
            world = (WORLD[0], WORLD[1], [pair], [])
            self.assert_shown(world, self.HEAD + f"against {pair[0]} {pair[1]}")
            self.assert_read_again(world)

    def test_a_see(self):
        for time in (0, 1, 10, 999999999):
            world = world_with([("see", time, "bob", "wind", "loud")])
            self.assert_shown(world, self.HEAD + f"see {time} bob wind loud")
            self.assert_read_again(world)

    def test_a_tell_without_a_quote(self):
        for time in (0, 1, 10, 999999999):
            world = world_with([("tell", time, "cid", "ann", "sun", "hot", ())])
            self.assert_shown(world, self.HEAD + f"tell {time} cid ann sun hot")
            self.assert_read_again(world)

    def test_a_tell_with_a_quote(self):
        for many in range(1, 7):
            for names in itertools.product(("ann", "bob", "cid"), repeat=many):
                world = world_with([("tell", 3, "cid", "ann", "sun", "hot", names)])
                self.assert_shown(world, self.HEAD + "tell 3 cid ann sun hot by " + " ".join(names))
                self.assert_read_again(world)

    def test_wordings_that_are_keywords(self):
        for word in KEYWORDS:
            world = world_with([("see", 1, "ann", "rain", word), ("tell", 1, "ann", "bob", "rain", word, ()),
                                ("tell", 1, "ann", "bob", "rain", word, ("cid", "ann"))])
            self.assert_shown(world, self.HEAD + f"see 1 ann rain {word}\ntell 1 ann bob rain {word}\n"
                              f"tell 1 ann bob rain {word} by cid ann")
            self.assert_read_again(world)

    def test_a_name_that_is_a_person_s_and_a_matter_s(self):
        world = ([("rain", 1, 1, 1), ("sun", 1, 1, 1)], ["sun", "rain"], [("rain", "sun")],
                 [("tell", 1, "rain", "sun", "rain", "sun", ("sun", "rain"))])
        self.assert_shown(world, "person rain 1 1 1\nperson sun 1 1 1\nmatter sun\nmatter rain\nagainst rain sun\n"
                          "tell 1 rain sun rain sun by sun rain")
        self.assert_read_again(world)


class ReadAgain(ShowingTest):
    def test_each_size(self):
        for people, matters in itertools.product(range(2, 11), range(1, 7)):
            pairs = [pair for pair in PAIRS if set(pair) <= set(MATTERS[:matters])]
            world = world_of_sizes(people, matters, 0, people * matters)
            self.assert_read_again((world[0], world[1], pairs, world[3]))
        for against in range(0, 16):
            self.assert_read_again(world_of_sizes(3, 6, against, against))
        for events in range(0, 81):
            self.assert_read_again(world_of_sizes(2, 1, 0, events))

    def test_the_most_of_all(self):
        world = world_of_sizes(10, 6, 15, 80)
        self.assert_read_again(world)
        self.assertEqual(len(shown_world(world).split("\n")), 111)

    def test_a_text_with_blanks_and_empty_rows_is_shown_without(self):
        loose = "\n \n" + "\n\n".join("  " + row.replace(" ", "   ") + " " for row in TEXT.split("\n")) + "\n\n"
        self.assertEqual(shown_world(read_world(loose)), TEXT)


class Own(ShowingTest):
    def test_the_same_is_answered_the_same(self):
        for turn in range(3):
            self.assert_shown(WORLD, TEXT)
            self.assert_shown(([("ann", 0, 0, 1)], ["rain"], [], []), "person ann 0 0 1\nmatter rain")

    def test_a_world_that_is_changed_behind_the_showing(self):
        world = copy.deepcopy(WORLD)
        shown = shown_world(world)
        for part in world:
            part.clear()
        self.assertEqual(shown, TEXT)
        self.assert_shown(WORLD, TEXT)


if __name__ == "__main__":
    unittest.main()
