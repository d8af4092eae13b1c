import copy
import itertools
import unittest

from helping import (AGAINST, NAMES, PEOPLE, drawn, has_seen, live_due, people_with, see, shuffled_numbers,
                     some_world, steps_due, tell, world_of)
from quoteweave.going import gone
from quoteweave.quotes import said_truly

TEN = ["ann", "bob", "cid", "dan", "eve", "fay", "gus", "hal", "ivy", "joe"]
TEN_PEOPLE = [(name, 4, 4, 1) for name in TEN]


def said_due(world, steps, number):
    """Whether the quote was true, by the live tells and the sees just ahead of the tell."""
    if world[3][number][0] == "see":
        return False
    kind, time, teller, hearer, matter, word, by = world[3][number]
    order = [step[0] for step in steps]
    past = order[:order.index(number)]
    live = live_due(world, past, {step[0]: step[1] for step in steps})
    told = {world[3][at][2:4] for at in live if world[3][at][4] == matter}
    for quoted in by:
        if (quoted, teller) not in told:
            return False
        teller = quoted
    return has_seen(world, past, teller, matter)


def row_of_tells(names, matter, start=1):
    """The first one sees it and each tells the next, one moment behind the other."""
    tells = [tell(start + at, one, other, matter) for at, (one, other) in enumerate(zip(names, names[1:]), start=1)]
    return [see(start, names[0], matter)] + tells


class QuotesTest(unittest.TestCase):
    def assert_said(self, world, number, wanted):
        before = copy.deepcopy(world)
        self.assertIs(said_truly(world, number), wanted, (world, number))
        self.assertEqual(world, before)

    def assert_last(self, events, wanted, people=PEOPLE, against=AGAINST):
        """Whether the quote of the last event in the list was true."""
        self.assert_said(world_of(events, people, against), len(events) - 1, wanted)


class Empty(QuotesTest):
    """An empty quote says that the teller has seen it."""

    def test_a_teller_who_had_seen_it(self):
        self.assert_last([see(1, "ann", "rain"), tell(2, "ann", "bob", "rain")], True)
        self.assert_last([see(2, "ann", "rain"), tell(2, "ann", "bob", "rain")], True)

    def test_a_teller_who_had_not_seen_it(self):
        self.assert_last([tell(2, "ann", "bob", "rain")], False)
        self.assert_last([see(1, "eve", "rain"), tell(2, "eve", "ann", "rain"), tell(3, "ann", "bob", "rain")], False)
        self.assert_last([see(1, "bob", "rain"), see(1, "ann", "wind"), tell(3, "ann", "bob", "rain")], False)

    def test_a_teller_who_saw_it_only_afterwards(self):
        self.assert_last([see(3, "ann", "rain"), tell(2, "ann", "bob", "rain")], False)
        world = world_of([tell(2, "ann", "bob", "rain"), see(2, "ann", "rain")])
        self.assert_said(world, 0, False)

    def test_a_teller_who_was_told_it_too(self):
        self.assert_last([see(1, "eve", "rain"), tell(2, "eve", "ann", "rain"), see(2, "ann", "rain"),
                          tell(3, "ann", "bob", "rain")], True)


class Links(QuotesTest):
    def test_quotes_of_one_to_six_people(self):
        for many in range(1, 7):
            names = TEN[:many + 1]
            events = row_of_tells(names, "rain")
            asked = tell(20, names[-1], "joe", "rain", tuple(names[-2::-1]))
            self.assert_last(events + [asked], True, TEN_PEOPLE)
            self.assert_said(world_of([asked] + events, TEN_PEOPLE), 0, True)

    def test_one_link_missing(self):
        for many in range(1, 7):
            names = TEN[:many + 1]
            events = row_of_tells(names, "rain")
            asked = tell(20, names[-1], "joe", "rain", tuple(names[-2::-1]))
            # Each person sees it, so that all tells are taken, and only the link is away.
            sees = [see(0, name, "rain") for name in names]
            self.assert_last(sees + events + [asked], True, TEN_PEOPLE)
            for at in range(1, many + 1):
                self.assert_last(sees + events[:at] + events[at + 1:] + [asked], False, TEN_PEOPLE)

    def test_one_link_told_later(self):
        for many in range(1, 7):
            names = TEN[:many + 1]
            events = [see(0, name, "rain") for name in names] + row_of_tells(names, "rain")
            asked = tell(20, names[-1], "joe", "rain", tuple(names[-2::-1]))
            for at in range(many + 2, len(events)):
                late = tell(21, events[at][2], events[at][3], "rain")
                self.assert_last(events[:at] + [late] + events[at + 1:] + [asked], False, TEN_PEOPLE)
                # At the same time, but with a higher number.
                late = tell(20, events[at][2], events[at][3], "rain")
                rest = events[:at] + events[at + 1:]
                self.assert_said(world_of(rest + [asked, late], TEN_PEOPLE), len(rest), False)
                self.assert_said(world_of(rest + [late, asked], TEN_PEOPLE), len(rest) + 1, True)

    def test_one_link_of_another_matter(self):
        for many in range(1, 5):
            names = TEN[:many + 1]
            sees = [see(0, name, matter) for name in names for matter in ("rain", "wind")]
            events = sees + row_of_tells(names, "rain")
            asked = tell(20, names[-1], "joe", "rain", tuple(names[-2::-1]))
            self.assert_last(events + [asked], True, TEN_PEOPLE)
            for at in range(len(sees) + 1, len(events)):
                other = tell(events[at][1], events[at][2], events[at][3], "wind")
                self.assert_last(events[:at] + [other] + events[at + 1:] + [asked], False, TEN_PEOPLE)

    def test_one_link_the_other_way_about(self):
        sees = [see(0, name, "rain") for name in ("ann", "bob", "cid")]
        asked = tell(5, "cid", "dan", "rain", ("bob", "ann"))
        right = [tell(1, "ann", "bob", "rain"), tell(2, "bob", "cid", "rain")]
        self.assert_last(sees + right + [asked], True)
        self.assert_last(sees + [right[0], tell(2, "cid", "bob", "rain"), asked], False)
        self.assert_last(sees + [tell(1, "bob", "ann", "rain"), right[1], asked], False)
        self.assert_last(sees + right + [tell(5, "cid", "dan", "rain", ("ann", "bob"))], False)

    def test_links_in_any_order_of_their_times(self):
        """Each saw it, so the tells may come in any order; only that they were there is asked."""
        sees = [see(0, name, "rain") for name in ("ann", "bob", "cid", "eve")]
        for times in itertools.permutations((1, 2, 3)):
            tells = [tell(times[0], "ann", "bob", "rain"), tell(times[1], "bob", "cid", "rain"),
                     tell(times[2], "cid", "eve", "rain")]
            self.assert_last(sees + tells + [tell(4, "eve", "dan", "rain", ("cid", "bob", "ann"))], True)

    def test_one_link_dead(self):
        """Bob finds ann wrong, and her tell of the wind dies; it lives again when he sees the rain."""
        events = [see(1, "ann", "wind"), see(1, "ann", "rain"), tell(2, "ann", "bob", "wind"),
                  tell(2, "ann", "bob", "rain"), see(6, "bob", "sun"), see(8, "bob", "rain")]
        for time, wanted in ((5, True), (6, False), (7, False), (8, True), (9, True)):
            self.assert_last(events + [tell(time, "bob", "cid", "wind", ("ann",))], wanted)

    def test_a_link_in_the_middle_dead(self):
        events = [see(1, "ann", "wind"), see(1, "ann", "rain"), tell(2, "ann", "bob", "wind"),
                  tell(2, "ann", "bob", "rain"), tell(3, "bob", "cid", "wind"), see(6, "bob", "sun")]
        self.assert_last(events + [tell(4, "cid", "dan", "wind", ("bob", "ann"))], True)
        self.assert_last(events + [tell(7, "cid", "dan", "wind", ("bob", "ann"))], False)

    def test_a_link_that_dies_later(self):
        events = [see(1, "ann", "rain"), tell(2, "ann", "bob", "rain"), see(6, "bob", "sun")]
        self.assert_last(events + [tell(5, "bob", "cid", "rain", ("ann",))], True)

    def test_one_link_not_taken(self):
        people = people_with(("bob", 4, 5, 1))
        events = [see(1, "ann", "rain"), tell(2, "ann", "bob", "rain"), see(3, "bob", "rain")]
        self.assert_last(events + [tell(5, "bob", "cid", "rain", ("ann",))], True)
        self.assert_last(events + [tell(5, "bob", "cid", "rain", ("ann",))], False, people)
        # Told before the teller held it.
        events = [see(3, "ann", "rain"), tell(2, "ann", "bob", "rain"), see(3, "bob", "rain")]
        self.assert_last(events + [tell(5, "bob", "cid", "rain", ("ann",))], False)
        self.assert_last(events + [tell(4, "ann", "bob", "rain"), tell(5, "bob", "cid", "rain", ("ann",))], True)

    def test_a_link_told_by_the_tell_itself(self):
        """Ann tells bob by bob by ann: she has it from bob, but he from her by this tell alone."""
        events = [see(1, "ann", "rain"), see(1, "bob", "rain"), tell(2, "bob", "ann", "rain"),
                  tell(5, "ann", "bob", "rain", ("bob", "ann"))]
        self.assertEqual(gone(world_of(events))[-1][:3], (3, True, [2, 3]))
        self.assert_last(events, False)
        self.assert_last(events[:3] + [tell(4, "ann", "bob", "rain"), events[3]], True)
        self.assert_last(events[:3] + [tell(5, "ann", "bob", "rain"), events[3]], True)
        self.assert_said(world_of(events + [tell(5, "ann", "bob", "rain")]), 3, False)


class Last(QuotesTest):
    """The last one of the quote is to have seen it."""

    def test_the_last_one_who_did_not_see_it(self):
        events = [see(1, "ann", "rain"), tell(2, "ann", "bob", "rain"), tell(3, "bob", "cid", "rain")]
        self.assert_last(events + [tell(4, "cid", "dan", "rain", ("bob",))], False)
        self.assert_last(events + [tell(4, "cid", "dan", "rain", ("bob", "ann"))], True)
        self.assert_last(events + [tell(4, "cid", "dan", "rain")], False)

    def test_the_last_one_who_saw_it_only_afterwards(self):
        events = [see(1, "ann", "rain"), tell(2, "ann", "bob", "rain"), tell(3, "bob", "cid", "rain")]
        asked = tell(5, "cid", "dan", "rain", ("bob",))
        for time, wanted in ((4, True), (5, True), (6, False)):
            self.assert_last(events + [see(time, "bob", "rain"), asked], wanted)
        self.assert_said(world_of(events + [asked, see(5, "bob", "rain")]), 3, False)

    def test_the_last_one_who_saw_another_matter(self):
        events = [see(1, "ann", "rain"), tell(2, "ann", "bob", "rain"), tell(3, "bob", "cid", "rain"),
                  see(1, "bob", "wind")]
        self.assert_last(events + [tell(4, "cid", "dan", "rain", ("bob",))], False)

    def test_one_in_the_middle_who_saw_it(self):
        events = [see(1, "eve", "rain"), tell(1, "eve", "ann", "rain"), see(1, "bob", "rain"),
                  tell(2, "ann", "bob", "rain"), tell(3, "bob", "cid", "rain")]
        self.assert_last(events + [tell(4, "cid", "dan", "rain", ("bob",))], True)
        self.assert_last(events + [tell(4, "cid", "dan", "rain", ("bob", "ann"))], False)
        self.assert_last(events + [tell(4, "cid", "dan", "rain", ("bob", "ann", "eve"))], True)

    def test_the_teller_who_saw_it_and_quotes_somebody_who_did_not(self):
        events = [see(1, "ann", "rain"), see(1, "eve", "rain"), tell(2, "eve", "bob", "rain"),
                  tell(3, "bob", "ann", "rain")]
        self.assert_last(events + [tell(4, "ann", "dan", "rain", ("bob",))], False)
        self.assert_last(events + [tell(4, "ann", "dan", "rain", ("bob", "eve"))], True)
        self.assert_last(events + [tell(4, "ann", "dan", "rain")], True)


class Twice(QuotesTest):
    """The same person may be in a quote twice, and the teller and the hearer, too."""

    EVENTS = [see(1, "ann", "rain"), see(1, "bob", "rain"), tell(2, "ann", "bob", "rain"),
              tell(3, "bob", "ann", "rain")]

    def test_the_same_person_twice(self):
        events = self.EVENTS + [tell(4, "ann", "cid", "rain")]
        for by in (("ann",), ("ann", "bob"), ("ann", "bob", "ann"), ("ann", "bob", "ann", "bob", "ann", "bob")):
            self.assert_last(events + [tell(5, "cid", "dan", "rain", by)], True)
        for by in (("bob", "ann"), ("ann", "ann"), ("ann", "bob", "bob"), ("ann", "bob", "ann", "ann")):
            self.assert_last(events + [tell(5, "cid", "dan", "rain", by)], False)

    def test_the_teller_in_the_quote(self):
        self.assert_last(self.EVENTS + [tell(5, "bob", "dan", "rain", ("bob",))], False)
        self.assert_last(self.EVENTS + [tell(5, "bob", "dan", "rain", ("ann", "bob"))], True)
        self.assert_last(self.EVENTS[:3] + [tell(5, "bob", "dan", "rain", ("ann", "bob"))], False)

    def test_the_hearer_in_the_quote(self):
        self.assert_last(self.EVENTS + [tell(5, "bob", "ann", "rain", ("ann",))], True)
        self.assert_last(self.EVENTS + [tell(5, "bob", "dan", "rain", ("dan",))], False)


class Kinds(QuotesTest):
    def test_a_see(self):
        events = [see(1, "ann", "rain"), tell(2, "ann", "bob", "rain"), see(3, "ann", "rain"), see(3, "bob", "rain")]
        for number in (0, 2, 3):
            self.assert_said(world_of(events), number, False)
        self.assert_said(world_of(events), 1, True)

    def test_a_see_whose_words_look_like_a_tell_s(self):
        people = [("ann", 4, 4, 1), ("bob", 4, 4, 1)]
        events = [see(1, "ann", "bob", "bob"), see(2, "bob", "bob", "ann"), see(3, "ann", "bob", "bob")]
        for number in range(3):
            self.assert_said((people, ["bob", "ann"], [], events), number, False)

    def test_a_tell_that_was_not_taken_whose_quote_is_true(self):
        # The teller's rank is too low.
        people = people_with(("cid", 4, 5, 1))
        events = [see(1, "ann", "rain"), tell(2, "ann", "bob", "rain")]
        for last, wanted in ((tell(3, "bob", "cid", "rain", ("ann",)), True), (tell(3, "bob", "cid", "rain"), False),
                             (tell(3, "ann", "cid", "rain"), True), (tell(3, "ann", "cid", "rain", ("bob",)), False)):
            self.assertIs(gone(world_of(events + [last], people))[-1][1], False)
            self.assert_last(events + [last], wanted, people)
        # The hearer has seen a matter against it.
        events += [see(2, "dan", "sun"), tell(3, "bob", "dan", "rain", ("ann",))]
        self.assertIs(gone(world_of(events))[-1][1], False)
        self.assert_last(events, True)

    def test_a_teller_who_does_not_hold_it(self):
        """Bob needs two and has one; his quote is true, and his tell is not taken."""
        people = people_with(("bob", 4, 4, 2))
        events = [see(1, "ann", "rain"), tell(2, "ann", "bob", "rain"), tell(3, "bob", "cid", "rain", ("ann",))]
        self.assertIs(gone(world_of(events, people))[-1][1], False)
        self.assert_last(events, True, people)

    def test_a_tell_that_died_later(self):
        events = [see(1, "ann", "rain"), tell(2, "ann", "bob", "rain"), see(3, "bob", "sun")]
        self.assertEqual(gone(world_of(events))[-1][2], [])
        self.assert_said(world_of(events), 1, True)

    def test_each_event_of_a_world(self):
        events = [tell(4, "cid", "dan", "rain", ("bob", "ann")), tell(3, "bob", "cid", "rain", ("ann",)),
                  tell(2, "ann", "bob", "rain"), see(1, "ann", "rain"), tell(3, "bob", "cid", "rain"),
                  tell(4, "cid", "dan", "rain", ("ann",)), tell(1, "ann", "dan", "rain")]
        for number, wanted in enumerate([True, True, True, False, False, False, True]):
            self.assert_said(world_of(events), number, wanted)

    def test_the_same_asked_again(self):
        events = row_of_tells(NAMES, "rain") + [tell(9, "dan", "bob", "rain", ("cid", "eve", "ann", "bob"))]
        world = world_of(events)
        for turn in range(3):
            self.assertEqual([said_truly(world, number) for number in range(6)],
                             [False, True, False, False, False, True])


class Drawn(QuotesTest):
    def quoted_world(self, numbers, many):
        """A world of tells whose quotes mostly follow tells ahead of them."""
        matters = drawn(numbers, (["rain"], ["rain", "wind"]))
        against = drawn(numbers, ([], [("wind", "rain")]))
        sees = [see(0, drawn(numbers, NAMES), drawn(numbers, matters)) for turn in range(3)]
        events = sees + some_world(numbers, PEOPLE, matters, [], many, range(30))[3]
        quoting = [self.with_quote(numbers, events, number) for number in range(len(events))]
        return world_of(quoting, against=against)

    def with_quote(self, numbers, events, number):
        event = events[number]
        if event[0] == "see":
            return event
        ahead = [other for at, other in enumerate(events) if (other[1], at) < (event[1], number)]
        by = []
        while len(by) < 6 and next(numbers) % 5 > 0:
            teller = by[-1] if by else event[2]
            known = [other[2] for other in ahead if other[0] == "tell" and other[3:5] == (teller, event[4])]
            by.append(drawn(numbers, known if known and next(numbers) % 16 else NAMES))
        return event[:6] + (tuple(by),)

    def test_some_worlds(self):
        numbers = shuffled_numbers(53)
        seen = {}
        for turn in range(60):
            world = self.quoted_world(numbers, 30)
            steps = steps_due(world)
            for number, event in enumerate(world[3]):
                wanted = said_due(world, steps, number)
                self.assert_said(world, number, wanted)
                if event[0] == "tell":
                    seen[len(event[6]), wanted] = seen.get((len(event[6]), wanted), 0) + 1
        # Quotes of which none is true, or none is false, would show nothing.
        for many in range(7):
            self.assertGreater(seen[many, True], 5 if many < 4 else 0, seen)
            self.assertGreater(seen[many, False], 5, seen)


if __name__ == "__main__":
    unittest.main()
