import copy
import itertools
import unittest

from helping import drawn, lists_in, shuffled_numbers, some_world, spoil, steps_due
from quoteweave.going import gone
from quoteweave.weave import Weave

PEOPLE = [("bob", 4, 3, 1), ("ann", 5, 4, 1), ("cid", 4, 2, 2)]
MATTERS = ["sun", "rain", "wind"]
AGAINST = [("rain", "sun")]
EVENTS = [("see", 1, "ann", "rain", "wet"), ("see", 2, "ann", "wind", "gale"),
          ("tell", 3, "ann", "bob", "rain", "damp", ()), ("tell", 4, "bob", "cid", "rain", "dry", ("ann", "bob")),
          ("tell", 5, "ann", "cid", "rain", "wet", ()), ("tell", 5, "ann", "bob", "wind", "storm", ("cid",)),
          ("see", 6, "bob", "sun", "hot"), ("see", 7, "bob", "rain", "wet")]


class WeaveTest(unittest.TestCase):
    def empty(self):
        return Weave(list(PEOPLE), list(MATTERS), list(AGAINST))

    def filled(self, events):
        weave = self.empty()
        for event in events:
            weave.put(event)
        return weave

    def assert_weave(self, weave, events, people=PEOPLE, matters=MATTERS, against=AGAINST):
        """What is told of the Weave, held against the same world gone through."""
        world = (list(people), list(matters), list(against), list(events))
        told = weave.world()
        self.assertIs(type(told), tuple)
        self.assertEqual([type(part) for part in told], [list] * 4)
        self.assertEqual(told, world)
        steps = weave.steps()
        self.assertIs(type(steps), list)
        self.assertEqual(steps, gone(world))
        self.assertEqual(steps, steps_due(world))
        held = weave.held()
        self.assertIs(type(held), list)
        self.assertEqual(held, steps[-1][3] if steps else [])
        self.assertEqual(weave.world(), world)

    def assert_put(self, events):
        """The Weave looked at ahead of the first put and behind each."""
        weave = self.empty()
        self.assert_weave(weave, [])
        for many, event in enumerate(events, start=1):
            weave.put(event)
            self.assert_weave(weave, events[:many])
        return weave


class Put(WeaveTest):
    def test_no_events_at_first(self):
        weave = self.empty()
        self.assertEqual(weave.world(), (PEOPLE, MATTERS, AGAINST, []))
        self.assertEqual(weave.steps(), [])
        self.assertEqual(weave.held(), [])

    def test_in_the_order_of_their_times(self):
        self.assert_put(EVENTS)

    def test_in_the_order_from_the_last_time(self):
        self.assert_put(EVENTS[::-1])

    def test_in_any_order(self):
        for at, order in enumerate(itertools.permutations(EVENTS[2:])):
            if at % 12 == 0:
                self.assert_weave(self.filled(list(order) + EVENTS[:2]), list(order) + EVENTS[:2])
        numbers = shuffled_numbers(41)
        for turn in range(20):
            self.assert_put(sorted(EVENTS, key=lambda event: next(numbers)))

    def test_an_event_twice(self):
        self.assert_put([EVENTS[0], EVENTS[2], EVENTS[2], EVENTS[0]])

    def test_events_of_one_time_by_the_order_of_putting(self):
        see, tell = ("see", 3, "ann", "rain", "wet"), ("tell", 3, "ann", "bob", "rain", "wet", ())
        self.assertEqual(self.assert_put([see, tell]).held(), [("bob", "rain"), ("ann", "rain")])
        self.assertEqual(self.assert_put([tell, see]).held(), [("ann", "rain")])

    def test_what_is_put_late_counts_as_told_in_its_time(self):
        tell, see = ("tell", 5, "ann", "bob", "rain", "wet", ()), ("see", 4, "ann", "rain", "wet")
        weave = self.assert_put([tell])
        self.assertEqual(weave.steps(), [(0, False, [], [])])
        weave.put(see)
        self.assert_weave(weave, [tell, see])
        self.assertEqual(weave.steps(), [(1, True, [], [("ann", "rain")]),
                                         (0, True, [0], [("bob", "rain"), ("ann", "rain")])])
        self.assertEqual(weave.held(), [("bob", "rain"), ("ann", "rain")])
        weave.put(("see", 5, "bob", "sun", "hot"))
        self.assertEqual(weave.steps()[1], (0, True, [0], [("bob", "rain"), ("ann", "rain")]))
        self.assertEqual(weave.held(), [("bob", "sun"), ("ann", "rain")])
        weave.put(("see", 3, "bob", "sun", "hot"))
        self.assertEqual([step[:2] for step in weave.steps()], [(3, True), (1, True), (0, False), (2, True)])

    def test_held_is_behind_all_events_not_behind_the_last_put(self):
        events = [EVENTS[0], EVENTS[2], EVENTS[6], ("see", 2, "cid", "wind", "gale")]
        weave = self.assert_put(events)
        self.assertEqual(weave.held(), [("bob", "sun"), ("ann", "rain"), ("cid", "wind")])

    def test_the_held_by_hand(self):
        held = [[("ann", "rain")], [("ann", "rain"), ("ann", "wind")],
                [("bob", "rain"), ("ann", "rain"), ("ann", "wind")],
                [("bob", "rain"), ("ann", "rain"), ("ann", "wind")],
                [("bob", "rain"), ("ann", "rain"), ("ann", "wind")],
                [("bob", "rain"), ("bob", "wind"), ("ann", "rain"), ("ann", "wind")],
                [("bob", "sun"), ("ann", "rain"), ("ann", "wind")],
                [("bob", "sun"), ("bob", "rain"), ("bob", "wind"), ("ann", "rain"), ("ann", "wind"), ("cid", "rain")]]
        weave = self.empty()
        for event, wanted in zip(EVENTS, held):
            weave.put(event)
            self.assertEqual(weave.held(), wanted)

    def test_drawn_worlds_put_event_by_event(self):
        numbers = shuffled_numbers(43)
        for turn in range(25):
            people = [(name, 4, drawn(numbers, (0, 4, 5)), drawn(numbers, (1, 1, 2))) for name in ("b", "a", "d", "c")]
            world = some_world(numbers, people, MATTERS, AGAINST, 16, drawn(numbers, (range(5), range(50))))
            weave = Weave(*world[:3])
            for many, event in enumerate(world[3], start=1):
                weave.put(event)
                self.assert_weave(weave, world[3][:many], *world[:3])


class Own(WeaveTest):
    def test_the_lists_handed_in_are_changed_afterwards(self):
        people, matters, against = list(PEOPLE), list(MATTERS), list(AGAINST)
        weave = Weave(people, matters, against)
        for part in (people, matters, against):
            part.reverse()
            part.append("spoilt")
        self.assert_weave(weave, [])
        for many, event in enumerate(EVENTS, start=1):
            weave.put(event)
            people.clear()
            matters.clear()
            against.clear()
            self.assert_weave(weave, EVENTS[:many])

    def test_the_lists_handed_in_stay(self):
        people, matters, against = list(PEOPLE), list(MATTERS), list(AGAINST)
        weave = Weave(people, matters, against)
        for event in EVENTS:
            weave.put(event)
            weave.steps()
            weave.held()
            spoil(weave.world())
            self.assertEqual((people, matters, against), (PEOPLE, MATTERS, AGAINST))

    def test_the_told_lists_are_changed_afterwards(self):
        weave = self.empty()
        for many in range(len(EVENTS) + 1):
            for turn in range(2):
                spoil(weave.world())
                spoil(weave.steps())
                spoil(weave.held())
            self.assert_weave(weave, EVENTS[:many])
            if many < len(EVENTS):
                weave.put(EVENTS[many])

    def test_what_is_told_stays_when_more_is_put(self):
        weave = self.empty()
        kept = []
        wanted = []
        for event in EVENTS[::-1]:
            told = (weave.world(), weave.steps(), weave.held())
            kept.append(told)
            wanted.append(copy.deepcopy(told))
            weave.put(event)
        self.assertEqual(kept, wanted)

    def test_no_two_lists_are_one(self):
        people, matters, against = list(PEOPLE), list(MATTERS), list(AGAINST)
        for events in ([], EVENTS):
            weave = Weave(people, matters, against)
            for event in events:
                weave.put(event)
            told = [(weave.world(), weave.steps(), weave.held()) for turn in range(2)]
            for one, other in itertools.combinations(lists_in(told) + [people, matters, against], 2):
                self.assertIsNot(one, other)

    def test_a_world_told_and_put_into_changes_nothing(self):
        weave = self.filled(EVENTS[:3])
        weave.world()[3].append(EVENTS[3])
        weave.world()[3].clear()
        self.assert_weave(weave, EVENTS[:3])

    def test_two_weaves_beside_one_another(self):
        people, matters, against = list(PEOPLE), list(MATTERS), list(AGAINST)
        one, other = Weave(people, matters, against), Weave(people, matters, against)
        third = Weave(people[::-1], matters[:2], [])
        for many, event in enumerate(EVENTS[:1] + EVENTS[2:5], start=1):
            one.put(event)
            self.assert_weave(one, (EVENTS[:1] + EVENTS[2:5])[:many])
            self.assert_weave(other, EVENTS[:many - 1])
            other.put(EVENTS[many - 1])
            self.assert_weave(other, EVENTS[:many])
            self.assert_weave(one, (EVENTS[:1] + EVENTS[2:5])[:many])
            self.assert_weave(third, [], PEOPLE[::-1], MATTERS[:2], [])
        third.put(EVENTS[6])
        self.assert_weave(third, [EVENTS[6]], PEOPLE[::-1], MATTERS[:2], [])
        self.assert_weave(one, EVENTS[:1] + EVENTS[2:5])

    def test_the_same_is_answered_the_same_each_time(self):
        weave = self.filled(EVENTS)
        wanted = copy.deepcopy((weave.world(), weave.steps(), weave.held()))
        for turn in range(3):
            self.assertEqual((weave.world(), weave.steps(), weave.held()), wanted)
            self.assertEqual((weave.held(), weave.steps(), weave.world()), wanted[::-1])

    def test_a_weave_of_a_weave_s_lists(self):
        first = self.filled(EVENTS[:2])
        told = first.world()
        second = Weave(told[0], told[1], told[2])
        second.put(EVENTS[6])
        spoil(told)
        self.assert_weave(first, EVENTS[:2])
        self.assert_weave(second, [EVENTS[6]])


if __name__ == "__main__":
    unittest.main()
