import copy
import itertools
import unittest

from helping import (AGAINST, MATTERS, NAMES, PEOPLE, OwnChecks, drawn, is_wrong, people_with, reasons_against, see,
                     shuffled_numbers, some_world, steps_due, tell, world_of)
from quoteweave.going import going_order, gone, until_time, wrong_pairs
from quoteweave.reader import read_world
from quoteweave.showing import shown_world

# Ann tells bob what she has seen, and what he then finds wrong: two tells die.
FALLING = [see(1, "ann", "rain"), see(1, "ann", "wind"), tell(2, "ann", "bob", "rain"), tell(3, "ann", "bob", "wind"),
           tell(4, "bob", "cid", "wind"), see(5, "bob", "sun")]


class GoingTest(unittest.TestCase):
    def told(self, world):
        """What is told, its kinds and what was handed in looked at, held against a second finding."""
        before = copy.deepcopy(world)
        steps = gone(world)
        self.assertEqual(world, before)
        self.assertIs(type(steps), list)
        for step in steps:
            self.assertIs(type(step), tuple)
            self.assertEqual([type(part) for part in step], [int, bool, list, list])
            self.assertEqual([type(number) for number in step[2]], [int] * len(step[2]))
            self.assertEqual([type(pair) for pair in step[3]], [tuple] * len(step[3]))
        self.assertEqual(steps, steps_due(world), world)
        return steps

    def assert_taken(self, world, wanted):
        """Which of the events are taken, by their numbers."""
        told = {step[0]: step[1] for step in self.told(world)}
        self.assertEqual([told[number] for number in range(len(told))], wanted)

    def assert_live(self, world, wanted):
        """The live tells behind each event gone through."""
        self.assertEqual([step[2] for step in self.told(world)], wanted)

    def assert_held(self, world, wanted):
        """The pairs held behind each event gone through."""
        self.assertEqual([step[3] for step in self.told(world)], wanted)

    def assert_last_held(self, world, wanted):
        self.assertEqual(self.told(world)[-1][3], wanted)

    def assert_wrong(self, world, wanted):
        before = copy.deepcopy(world)
        told = wrong_pairs(world)
        self.assertEqual(world, before)
        self.assertIs(type(told), list)
        self.assertEqual([type(pair) for pair in told], [tuple] * len(told))
        self.assertEqual(told, wanted)


class Order(GoingTest):
    def assert_order(self, times, wanted):
        events = [see(time, "ann", "rain") if at % 2 else tell(time, "ann", "bob", "rain")
                  for at, time in enumerate(times)]
        before = list(events)
        told = going_order(events)
        self.assertIs(type(told), list)
        self.assertEqual([type(number) for number in told], [int] * len(times))
        self.assertEqual(told, wanted)
        self.assertEqual(events, before)
        self.assertEqual([step[0] for step in self.told(world_of(events))], wanted)

    def test_no_events(self):
        self.assert_order([], [])

    def test_times_rising(self):
        self.assert_order([0, 1, 5, 9, 10, 999999999], [0, 1, 2, 3, 4, 5])

    def test_times_falling(self):
        self.assert_order([999999999, 10, 9, 5, 1, 0], [5, 4, 3, 2, 1, 0])

    def test_times_all_alike(self):
        for time in (0, 7, 999999999):
            self.assert_order([time] * 12, list(range(12)))

    def test_times_drawn(self):
        self.assert_order([5, 3, 5, 3, 100, 20, 3], [1, 3, 6, 0, 2, 5, 4])
        numbers = shuffled_numbers(17)
        for turn in range(30):
            times = [next(numbers) % (turn + 1) for at in range(20)]
            order = going_order([see(time, "ann", "rain") for time in times])
            self.assertEqual(sorted(order), list(range(20)))
            for one, other in zip(order, order[1:]):
                self.assertTrue(times[one] < times[other] or (times[one] == times[other] and one < other))

    def test_neither_kind_nor_name_counts(self):
        events = [tell(4, "dan", "bob", "wind"), see(4, "ann", "rain"), tell(4, "ann", "bob", "rain"),
                  see(3, "eve", "sun")]
        self.assertEqual(going_order(events), [3, 0, 1, 2])

    def test_events_alike(self):
        self.assertEqual(going_order([see(2, "ann", "rain")] * 4), [0, 1, 2, 3])


class Taken(GoingTest):
    """Each of the four reasons by itself, and the same tell taken once that reason is away."""

    def assert_refused(self, events, reason, people=PEOPLE, against=AGAINST):
        """The last event is not taken, for this reason alone."""
        world = world_of(events, people, against)
        self.assertEqual(self.reasons(world), [reason])
        step = [step for step in self.told(world) if step[0] == len(events) - 1][0]
        self.assertIs(step[1], False)
        for later in self.told(world):
            self.assertNotIn(len(events) - 1, later[2])

    def assert_believed(self, events, people=PEOPLE, against=AGAINST):
        """The last event is taken."""
        world = world_of(events, people, against)
        self.assertEqual(self.reasons(world), [])
        step = [step for step in self.told(world) if step[0] == len(events) - 1][0]
        self.assertIs(step[1], True)
        self.assertIn(len(events) - 1, step[2])

    def reasons(self, world):
        steps = steps_due(world)
        taken = {step[0]: step[1] for step in steps}
        last = len(world[3]) - 1
        order = [step[0] for step in steps]
        return reasons_against(world, order[:order.index(last)], taken, world[3][last])

    def test_the_teller_does_not_hold_it(self):
        asked = tell(5, "ann", "bob", "rain")
        self.assert_refused([asked], "teller")
        self.assert_refused([see(5, "ann", "wind"), see(5, "bob", "rain"), see(5, "eve", "rain"), asked], "teller")
        self.assert_refused([see(6, "ann", "rain"), asked], "teller")
        self.assert_believed([see(5, "ann", "rain"), asked])
        self.assert_believed([see(4, "eve", "rain"), tell(4, "eve", "ann", "rain"), asked])

    def test_the_teller_has_fewer_chains_than_they_need(self):
        people = people_with(("ann", 4, 4, 2))
        asked = tell(5, "ann", "bob", "rain")
        events = [see(1, "eve", "rain"), see(1, "cid", "rain"), tell(2, "eve", "ann", "rain"),
                  tell(2, "eve", "ann", "rain")]
        self.assert_refused(events + [asked], "teller", people)
        self.assert_believed(events + [tell(3, "cid", "ann", "rain"), asked], people)
        self.assert_believed(events + [asked])

    def test_the_teller_holds_it_no_more(self):
        events = [see(1, "eve", "rain"), tell(2, "eve", "ann", "rain"), see(1, "eve", "wind"),
                  tell(3, "eve", "ann", "wind"), see(4, "ann", "calm")]
        asked = tell(5, "ann", "bob", "rain")
        self.assert_refused(events + [asked], "teller")
        self.assert_believed(events[:-1] + [asked])
        self.assert_believed(events + [see(5, "ann", "wind"), asked])

    def test_the_teller_s_rank_at_the_floor_and_below_it(self):
        events = [see(1, "ann", "rain"), tell(2, "ann", "bob", "rain")]
        for floor in (1, 50, 99):
            self.assert_refused(events, "rank", people_with(("ann", floor - 1, 0, 1), ("bob", 4, floor, 1)))
            self.assert_believed(events, people_with(("ann", floor, 99, 1), ("bob", 4, floor, 1)))
        self.assert_believed(events, people_with(("ann", 0, 99, 1), ("bob", 0, 0, 1)))
        self.assert_refused(events, "rank", people_with(("ann", 0, 0, 1), ("bob", 99, 99, 1)))
        self.assert_believed(events, people_with(("ann", 99, 99, 1), ("bob", 0, 98, 1)))

    def test_the_hearer_holds_a_matter_against_it_by_seeing(self):
        events = [see(1, "ann", "rain"), see(1, "bob", "sun"), tell(2, "ann", "bob", "rain")]
        self.assert_refused(events, "against")
        self.assert_refused(events, "against", against=[("sun", "rain")])
        self.assert_believed(events, against=[("sun", "wind"), ("calm", "rain"), ("wind", "rain")])
        self.assert_believed([events[0], events[2]])

    def test_the_hearer_holds_a_matter_against_it_by_tells(self):
        events = [see(1, "ann", "rain"), see(1, "eve", "sun"), tell(1, "eve", "bob", "sun")]
        asked = tell(2, "ann", "bob", "rain")
        for against in (AGAINST, [("sun", "rain")], [("wind", "sun"), ("wind", "rain"), ("rain", "sun")]):
            self.assert_refused(events + [asked], "against", against=against)
        self.assert_believed(events + [asked], against=[])
        self.assert_believed(events[:2] + [asked])
        self.assert_believed(events[:2] + [tell(3, "eve", "bob", "sun"), asked])

    def test_a_matter_against_it_that_the_hearer_was_told_but_holds_not(self):
        events = [see(1, "ann", "rain"), see(1, "eve", "sun"), tell(1, "eve", "bob", "sun"),
                  tell(2, "ann", "bob", "rain")]
        self.assert_believed(events, people_with(("bob", 4, 4, 2)))

    def test_a_matter_against_it_that_the_hearer_holds_no_more(self):
        events = [see(1, "ann", "rain"), see(1, "eve", "sun"), tell(1, "eve", "bob", "sun"), see(1, "eve", "wind"),
                  tell(2, "eve", "bob", "wind"), see(3, "bob", "calm")]
        asked = tell(4, "ann", "bob", "rain")
        self.assert_believed(events + [asked])
        self.assert_refused(events[:-1] + [asked], "against")
        self.assert_refused(events + [see(4, "bob", "wind"), asked], "against")

    def test_what_another_one_holds_against_it_does_not_count(self):
        events = [see(1, "ann", "rain"), see(1, "ann", "sun"), see(1, "eve", "sun"), see(1, "bob", "wind"),
                  tell(2, "ann", "bob", "rain")]
        self.assert_believed(events)

    def test_the_hearer_sees_both_matters(self):
        events = [see(1, "ann", "rain"), see(1, "bob", "sun"), see(1, "bob", "rain"), tell(2, "ann", "bob", "rain")]
        self.assert_refused(events, "against")

    def test_the_teller_is_found_wrong_by_the_hearer(self):
        events = [see(1, "ann", "rain"), see(1, "ann", "wind"), tell(2, "ann", "bob", "rain"), see(3, "bob", "sun")]
        asked = tell(4, "ann", "bob", "wind")
        self.assert_refused(events + [asked], "wrong")
        self.assert_refused(events + [asked], "wrong", against=[("sun", "rain")])
        self.assert_believed(events + [asked], against=[("calm", "wind")])
        self.assert_believed(events[:-1] + [asked])
        self.assert_believed(events + [see(4, "bob", "rain"), asked])
        self.assert_believed(events[:-1] + [see(5, "bob", "sun"), asked])

    def test_the_teller_is_found_wrong_by_a_tell_that_was_not_taken(self):
        """Ann told bob what she didn't hold herself."""
        events = [see(1, "ann", "wind"), tell(2, "ann", "bob", "rain"), see(3, "bob", "sun")]
        asked = tell(4, "ann", "bob", "wind")
        self.assertEqual(self.told(world_of(events))[1][1], False)
        self.assert_refused(events + [asked], "wrong")
        self.assert_believed([events[0], events[2], asked])
        self.assert_believed(events[:2] + [asked])

    def test_the_teller_is_found_wrong_by_another_one_alone(self):
        events = [see(1, "ann", "rain"), see(1, "ann", "wind"), tell(2, "ann", "eve", "rain"), see(3, "eve", "sun")]
        self.assert_believed(events + [tell(4, "ann", "bob", "wind")])
        self.assert_refused(events + [tell(4, "ann", "eve", "wind")], "wrong")
        self.assert_believed(events + [see(4, "eve", "wind"), tell(4, "eve", "ann", "wind")])

    def test_what_was_told_in_time_counts_though_put_late(self):
        asked = tell(4, "ann", "bob", "wind")
        events = [see(3, "bob", "sun"), tell(2, "ann", "bob", "rain"), see(1, "ann", "wind")]
        self.assert_refused(events + [asked], "wrong")
        self.assert_believed([see(5, "bob", "sun")] + events[1:] + [asked])

    def test_a_see_is_always_taken(self):
        events = [see(1, "bob", "sun"), see(2, "bob", "rain"), see(2, "bob", "rain"), tell(3, "ann", "bob", "rain"),
                  see(4, "ann", "sun"), see(4, "ann", "wind")]
        people = people_with(("bob", 0, 99, 4), ("ann", 0, 99, 4))
        self.assert_taken(world_of(events, people), [True, True, True, False, True, True])

    def test_once_and_for_all(self):
        """What was not taken is not taken later, though all reasons are away; what was taken stays so."""
        events = [tell(1, "ann", "bob", "rain"), see(2, "ann", "rain"), tell(3, "ann", "bob", "rain")]
        self.assert_taken(world_of(events), [False, True, True])
        self.assert_live(world_of(events), [[], [], [2]])
        self.assert_taken(world_of(FALLING), [True] * 6)

    def test_a_tell_twice(self):
        events = [see(1, "ann", "rain"), tell(2, "ann", "bob", "rain"), tell(2, "ann", "bob", "rain")]
        self.assert_taken(world_of(events), [True, True, True])
        self.assert_live(world_of(events), [[], [1], [1, 2]])

    def test_the_quote_and_the_wording_count_for_nothing(self):
        for by in ((), ("bob",), ("cid", "dan", "cid", "bob", "ann", "eve")):
            events = [see(1, "ann", "rain"), tell(2, "ann", "bob", "rain", by)]
            self.assert_taken(world_of(events), [True, True])
            self.assert_last_held(world_of(events), [("bob", "rain"), ("ann", "rain")])

    def test_a_see_and_a_tell_of_one_time(self):
        self.assert_taken(world_of([see(3, "ann", "rain"), tell(3, "ann", "bob", "rain")]), [True, True])
        self.assert_taken(world_of([tell(3, "ann", "bob", "rain"), see(3, "ann", "rain")]), [False, True])
        self.assert_taken(world_of([tell(4, "ann", "bob", "rain"), see(3, "ann", "rain")]), [True, True])
        against = [see(1, "ann", "rain"), tell(3, "ann", "bob", "rain"), see(3, "bob", "sun")]
        self.assert_taken(world_of(against), [True, True, True])
        self.assert_taken(world_of([against[0], against[2], against[1]]), [True, True, False])

    def test_a_tell_and_a_tell_of_one_time(self):
        first, second = tell(3, "ann", "bob", "rain"), tell(3, "bob", "cid", "rain")
        self.assert_taken(world_of([see(1, "ann", "rain"), first, second]), [True, True, True])
        self.assert_taken(world_of([see(1, "ann", "rain"), second, first]), [True, False, True])


class Wrong(GoingTest):
    def test_a_world_without_events(self):
        self.assert_wrong(world_of([]), [])

    def test_by_a_see_behind_the_tell_and_ahead_of_it(self):
        one, other = tell(3, "ann", "bob", "rain"), see(5, "bob", "sun")
        for events in ([one, other], [other, one], [see(1, "bob", "sun"), one], [see(3, "bob", "sun"), one]):
            self.assert_wrong(world_of(events), [("ann", "bob")])
            self.assert_wrong(world_of([see(0, "ann", "rain")] + events), [("ann", "bob")])
            self.assert_wrong(world_of(events, against=[("sun", "rain")]), [("ann", "bob")])

    def test_not_by_the_tell_or_the_see_alone(self):
        self.assert_wrong(world_of([tell(3, "ann", "bob", "rain")]), [])
        self.assert_wrong(world_of([see(3, "bob", "sun"), see(4, "ann", "rain")]), [])

    def test_not_where_the_hearer_has_seen_what_they_were_told(self):
        events = [tell(3, "ann", "bob", "rain"), see(5, "bob", "sun")]
        for time in (0, 3, 4, 5, 9):
            self.assert_wrong(world_of(events + [see(time, "bob", "rain")]), [])
            self.assert_wrong(world_of(events + [see(time, "ann", "rain")]), [("ann", "bob")])
            self.assert_wrong(world_of(events + [see(time, "bob", "wind")]), [("ann", "bob")])

    def test_not_where_the_matters_are_not_against(self):
        events = [tell(3, "ann", "bob", "rain"), see(5, "bob", "sun")]
        self.assert_wrong(world_of(events, against=[]), [])
        self.assert_wrong(world_of(events, against=[("rain", "wind"), ("wind", "sun"), ("calm", "sun")]), [])

    def test_not_by_what_the_hearer_holds_without_seeing(self):
        events = [see(1, "eve", "sun"), tell(2, "eve", "bob", "sun"), see(1, "ann", "rain"),
                  tell(3, "ann", "bob", "rain")]
        self.assert_last_held(world_of(events), [("bob", "sun"), ("ann", "rain"), ("eve", "sun")])
        self.assert_wrong(world_of(events), [])

    def test_not_by_what_the_teller_or_another_has_seen(self):
        events = [tell(3, "ann", "bob", "rain"), see(1, "ann", "sun"), see(2, "eve", "sun"), see(2, "bob", "wind")]
        self.assert_wrong(world_of(events), [])

    def test_by_one_of_several_tells(self):
        events = [tell(1, "ann", "bob", "sun"), tell(2, "ann", "bob", "rain"), tell(3, "ann", "bob", "wind"),
                  see(9, "bob", "sun")]
        self.assert_wrong(world_of(events), [("ann", "bob")])
        self.assert_wrong(world_of(events[:1] + events[2:]), [])

    def test_one_seen_and_another_not(self):
        """Bob sees what one tell told and not what the other one did."""
        events = [tell(1, "ann", "bob", "rain"), tell(2, "ann", "bob", "wind"), see(3, "bob", "sun"),
                  see(3, "bob", "calm"), see(4, "bob", "rain")]
        self.assert_wrong(world_of(events), [("ann", "bob")])
        self.assert_wrong(world_of(events + [see(5, "bob", "wind")]), [])

    def test_several_matters_against_one(self):
        against = [("wind", "rain"), ("rain", "sun"), ("calm", "rain")]
        for matter in ("wind", "sun", "calm"):
            events = [see(3, "bob", matter), tell(3, "ann", "bob", "rain")]
            self.assert_wrong(world_of(events, against=against), [("ann", "bob")])
            events = [see(3, "bob", "rain"), tell(3, "ann", "bob", matter)]
            self.assert_wrong(world_of(events, against=against), [("ann", "bob")])

    def test_each_by_the_other(self):
        events = [tell(1, "ann", "bob", "rain"), tell(1, "bob", "ann", "wind"), see(2, "bob", "sun"),
                  see(2, "ann", "calm")]
        self.assert_wrong(world_of(events), [("bob", "ann"), ("ann", "bob")])

    def test_the_order_of_the_people(self):
        pairs = list(itertools.permutations(NAMES, 2))
        events = [see(0, name, "sun") for name in sorted(NAMES)]
        events += [tell(20 - at, teller, hearer, "rain") for at, (teller, hearer) in enumerate(sorted(pairs))]
        self.assert_wrong(world_of(events), pairs)
        self.assert_wrong(world_of(events + events[5:]), pairs)
        turned = world_of(events, PEOPLE[::-1])
        self.assert_wrong(turned, list(itertools.permutations(NAMES[::-1], 2)))

    def test_some_pairs_in_order(self):
        events = [see(0, name, "sun") for name in NAMES]
        events += [tell(1, "dan", "bob", "rain"), tell(1, "cid", "dan", "rain"), tell(1, "cid", "ann", "rain"),
                   tell(1, "bob", "dan", "rain"), tell(1, "dan", "ann", "sun")]
        self.assert_wrong(world_of(events), [("bob", "dan"), ("cid", "ann"), ("cid", "dan"), ("dan", "bob")])

    def test_behind_all_events_whatever_their_order(self):
        events = [tell(1, "ann", "bob", "rain"), see(2, "bob", "sun"), see(3, "bob", "rain"),
                  tell(4, "ann", "bob", "wind"), see(5, "bob", "calm")]
        for order in itertools.permutations(events):
            self.assert_wrong(world_of(order), [("ann", "bob")])


class Live(GoingTest):
    def test_a_tell_dies_when_its_teller_is_found_wrong(self):
        """All tells of this teller to this hearer die, of whatever matter, and no other's."""
        self.assert_live(world_of(FALLING), [[], [], [2], [2, 3], [2, 3, 4], [4]])

    def test_a_tell_lives_again_when_the_hearer_sees_what_they_were_told(self):
        events = FALLING + [see(6, "bob", "rain")]
        self.assert_live(world_of(events), [[], [], [2], [2, 3], [2, 3, 4], [4], [2, 3, 4]])

    def test_a_tell_dies_by_one_that_is_not_taken(self):
        """Eve doesn't hold what she tells of the wind; bob sees the calm."""
        events = [see(1, "eve", "rain"), tell(2, "eve", "bob", "rain"), see(3, "bob", "calm"),
                  tell(4, "eve", "bob", "wind")]
        self.assert_live(world_of(events), [[], [1], [1], []])
        self.assert_taken(world_of(events), [True, True, True, False])
        self.assert_wrong(world_of(events), [("eve", "bob")])

    def test_a_tell_dies_and_lives_again_more_than_once(self):
        events = [see(1, "ann", "rain"), tell(2, "ann", "bob", "rain"), see(3, "bob", "sun"), see(4, "bob", "rain"),
                  tell(5, "ann", "bob", "wind"), see(6, "bob", "calm"), see(7, "bob", "wind")]
        self.assert_live(world_of(events), [[], [1], [], [1], [1], [], [1]])
        self.assert_taken(world_of(events), [True, True, True, True, False, True, True])

    def test_a_tell_that_was_not_taken_lives_not_again(self):
        """The one that was refused for the wrong teller stays refused when the other one lives again."""
        events = FALLING[:3] + [see(3, "bob", "sun"), tell(4, "ann", "bob", "wind"), see(5, "bob", "rain")]
        self.assert_taken(world_of(events), [True, True, True, True, False, True])
        self.assert_live(world_of(events), [[], [], [2], [], [], [2]])

    def test_a_tell_stays_live_where_its_teller_holds_the_matter_no_more(self):
        world = world_of(FALLING)
        self.assertIn(4, self.told(world)[-1][2])
        self.assertNotIn(("bob", "wind"), self.told(world)[-1][3])
        self.assertNotIn(("cid", "wind"), self.told(world)[-1][3])
        later = world_of(FALLING + [see(6, "bob", "wind")])
        self.assertEqual(self.told(later)[-1][2], [4])
        self.assertIn(("cid", "wind"), self.told(later)[-1][3])

    def test_another_hearer_s_tell_stays_live(self):
        events = [see(1, "ann", "rain"), tell(2, "ann", "bob", "rain"), tell(2, "ann", "cid", "rain"),
                  see(3, "bob", "sun")]
        self.assert_live(world_of(events), [[], [1], [1, 2], [2]])

    def test_another_teller_s_tell_stays_live(self):
        events = [see(1, "ann", "wind"), see(1, "eve", "wind"), tell(2, "ann", "bob", "wind"),
                  tell(2, "eve", "bob", "wind"), tell(3, "ann", "bob", "rain"), see(4, "bob", "sun")]
        self.assert_live(world_of(events), [[], [], [2], [2, 3], [2, 3], [3]])

    def test_the_numbers_rise_whatever_the_times(self):
        events = [tell(9, "ann", "dan", "rain"), tell(8, "ann", "eve", "rain"), tell(5, "ann", "bob", "rain"),
                  tell(7, "ann", "cid", "rain"), see(1, "ann", "rain")]
        self.assert_live(world_of(events), [[], [2], [2, 3], [1, 2, 3], [0, 1, 2, 3]])

    def test_a_tell_is_not_live_ahead_of_itself(self):
        events = [see(1, "ann", "rain"), see(2, "bob", "wind"), tell(3, "ann", "bob", "rain")]
        self.assert_live(world_of(events), [[], [], [2]])


class Held(GoingTest):
    def test_what_is_held_and_falls_and_is_held_again(self):
        events = FALLING + [see(6, "bob", "rain")]
        ann = [("ann", "rain"), ("ann", "wind")]
        self.assert_held(world_of(events), [
            [("ann", "rain")], ann, [("bob", "rain")] + ann, [("bob", "rain"), ("bob", "wind")] + ann,
            [("bob", "rain"), ("bob", "wind")] + ann + [("cid", "wind")], [("bob", "sun")] + ann,
            [("bob", "sun"), ("bob", "rain"), ("bob", "wind")] + ann + [("cid", "wind")]])

    def test_a_circle_whose_ground_falls(self):
        """Bob and cid told one another; ann, who told bob, is found wrong by him."""
        events = [see(1, "ann", "rain"), tell(2, "ann", "bob", "rain"), tell(3, "bob", "cid", "rain"),
                  tell(4, "cid", "bob", "rain"), tell(5, "ann", "bob", "wind"), see(6, "bob", "calm")]
        self.assertEqual(self.told(world_of(events))[-2][3], [("bob", "rain"), ("ann", "rain"), ("cid", "rain")])
        self.assert_last_held(world_of(events), [("bob", "calm"), ("ann", "rain")])
        self.assertEqual(self.told(world_of(events))[-1][2], [2, 3])

    def test_another_chain_keeps_it_up(self):
        events = [see(1, "eve", "wind"), tell(2, "eve", "bob", "wind")] + FALLING
        self.assert_last_held(world_of(events), [("bob", "sun"), ("bob", "wind"), ("ann", "rain"), ("ann", "wind"),
                                                 ("eve", "wind"), ("cid", "wind")])

    def test_two_matters_against_one_another_by_a_ground_that_comes_back(self):
        """Bob's tell of the rain stays live while eve holds it no more; meanwhile he is told of the sun."""
        events = [see(1, "ann", "rain"), tell(2, "ann", "eve", "rain"), tell(3, "eve", "bob", "rain"),
                  tell(4, "ann", "eve", "wind"), see(5, "eve", "calm"), see(1, "cid", "sun"),
                  tell(6, "cid", "bob", "sun"), see(7, "eve", "wind")]
        steps = self.told(world_of(events))
        held = {step[0]: [matter for name, matter in step[3] if name == "bob"] for step in steps}
        self.assertEqual([held[at] for at in (2, 4, 6, 7)], [["rain"], [], ["sun"], ["sun", "rain"]])
        self.assert_wrong(world_of(events), [])

    def test_two_matters_against_one_another_by_tells_that_become_enough(self):
        """Dan needs two; what he was told of the rain comes all from ann, until bob sees it, too."""
        people = people_with(("dan", 4, 4, 2))
        events = [see(1, "ann", "rain"), tell(1, "ann", "bob", "rain"), tell(2, "bob", "dan", "rain"),
                  tell(2, "ann", "dan", "rain"), see(2, "cid", "sun"), see(2, "eve", "sun"),
                  tell(3, "cid", "dan", "sun"), tell(3, "eve", "dan", "sun"), see(4, "bob", "rain")]
        self.assert_taken(world_of(events, people), [True] * 9)
        held = [[matter for name, matter in step[3] if name == "dan"] for step in self.told(world_of(events, people))]
        self.assertEqual(held, [[]] * 7 + [["sun"], ["sun", "rain"]])

    def test_a_tell_that_fits_while_too_few_have_told_the_other_matter(self):
        """Dan needs two and has heard of the sun once, so the rain's second tell is taken; the sun's isn't."""
        people = people_with(("dan", 4, 4, 2))
        events = [see(1, "ann", "rain"), see(1, "cid", "sun"), see(2, "eve", "rain"), see(2, "eve", "sun"),
                  tell(3, "ann", "dan", "rain"), tell(3, "cid", "dan", "sun"), tell(4, "eve", "dan", "rain"),
                  tell(4, "eve", "dan", "sun")]
        self.assert_taken(world_of(events, people), [True] * 7 + [False])

    def test_two_matters_against_one_another_by_seeing(self):
        events = [see(1, "bob", "rain"), see(2, "bob", "sun")]
        self.assert_held(world_of(events), [[("bob", "rain")], [("bob", "sun"), ("bob", "rain")]])

    def test_seers_hold_for_ever(self):
        events = [see(1, "ann", "rain"), see(2, "ann", "sun"), tell(3, "eve", "ann", "rain"),
                  tell(3, "eve", "ann", "wind"), see(4, "ann", "calm"), tell(5, "ann", "bob", "rain"),
                  see(6, "bob", "sun"), tell(7, "cid", "ann", "sun")]
        for people in (PEOPLE, people_with(("ann", 4, 99, 4))):
            for step in self.told(world_of(events, people)):
                self.assertIn(("ann", "rain"), step[3])

    def test_chains_that_meet_in_one_person(self):
        """Dan needs two; what comes by eve and by cid comes all from ann, until bob sees it, too."""
        people = people_with(("dan", 4, 4, 2))
        events = [see(1, "ann", "rain"), tell(2, "ann", "eve", "rain"), tell(2, "ann", "cid", "rain"),
                  tell(3, "eve", "dan", "rain"), tell(3, "cid", "dan", "rain"), see(4, "bob", "rain"),
                  tell(5, "bob", "cid", "rain")]
        held = [("dan", "rain") in step[3] for step in self.told(world_of(events, people))]
        self.assertEqual(held, [False, False, False, False, False, False, True])

    def test_needs_of_one_to_four(self):
        for need in (1, 2, 3, 4):
            people = people_with(("dan", 4, 4, need))
            events = [see(1, name, "rain") for name in NAMES[:4]]
            events += [tell(2, name, "dan", "rain") for name in NAMES[:4]]
            held = [("dan", "rain") in step[3] for step in self.told(world_of(events, people))[4:]]
            self.assertEqual(held, [at + 1 >= need for at in range(4)])

    def test_the_order_of_the_pairs(self):
        pairs = [(name, matter) for name in NAMES for matter in MATTERS]
        events = [see(20 - at, name, matter) for at, (name, matter) in enumerate(sorted(pairs))]
        self.assert_last_held(world_of(events), pairs)
        people, matters, against, events = world_of(events)
        turned = [(name, matter) for name in NAMES[::-1] for matter in MATTERS[::-1]]
        self.assert_last_held((people[::-1], matters[::-1], against, events), turned)

    def test_a_world_without_events(self):
        self.assertEqual(self.told(world_of([])), [])
        self.assertEqual(self.told(([("ann", 0, 0, 1)], ["rain"], [], [])), [])

    def test_the_least_world(self):
        self.assertEqual(self.told(([("ann", 0, 99, 4)], ["rain"], [], [see(7, "ann", "rain")])),
                         [(0, True, [], [("ann", "rain")])])

    def test_a_matter_with_a_person_s_name(self):
        people = [("ann", 4, 4, 1), ("bob", 4, 4, 1), ("cid", 4, 4, 1)]
        events = [see(1, "ann", "bob"), tell(2, "ann", "bob", "bob"), tell(3, "bob", "cid", "bob"),
                  tell(3, "bob", "cid", "ann"), see(4, "cid", "cid"), see(5, "bob", "ann")]
        world = (people, ["cid", "bob", "ann"], [("cid", "bob")], events)
        self.assertEqual(self.told(world), [
            (0, True, [], [("ann", "bob")]),
            (1, True, [1], [("ann", "bob"), ("bob", "bob")]),
            (2, True, [1, 2], [("ann", "bob"), ("bob", "bob"), ("cid", "bob")]),
            (3, False, [1, 2], [("ann", "bob"), ("bob", "bob"), ("cid", "bob")]),
            (4, True, [1], [("ann", "bob"), ("bob", "bob"), ("cid", "cid")]),
            (5, True, [1], [("ann", "bob"), ("bob", "bob"), ("bob", "ann"), ("cid", "cid")])])
        self.assert_wrong(world, [("bob", "cid")])

    def test_wordings_that_are_names(self):
        """Nothing is read out of a wording, be it a matter's name, and the matter a person's."""
        people = [("ann", 4, 4, 1), ("bob", 4, 4, 1)]
        events = [("see", 1, "bob", "sun", "rain"), ("see", 2, "ann", "bob", "rain"), ("see", 2, "bob", "bob", "ann"),
                  ("see", 3, "ann", "wind", "sun"), ("tell", 4, "ann", "bob", "wind", "rain", ()),
                  ("tell", 5, "ann", "bob", "bob", "sun", ())]
        world = (people, ["bob", "rain", "sun", "wind"], [("rain", "sun")], events)
        self.assert_wrong(world, [])
        self.assert_taken(world, [True] * 6)
        self.assertEqual(self.told(world)[-1][2], [4, 5])
        self.assert_last_held(world, [("ann", "bob"), ("ann", "wind"), ("bob", "bob"), ("bob", "sun"), ("bob", "wind")])

    def test_one_matter_s_tells_are_no_chains_of_another(self):
        events = [see(1, "ann", "rain"), see(1, "ann", "wind"), tell(2, "ann", "bob", "wind"),
                  tell(3, "bob", "cid", "rain")]
        self.assert_last_held(world_of(events), [("bob", "wind"), ("ann", "rain"), ("ann", "wind")])
        self.assert_taken(world_of(events), [True, True, True, False])

    def test_a_whole_world_by_hand(self):
        world = read_world("\n".join([
            "person ann 5 3 1", "person bob 4 0 1", "person cid 2 5 2", "matter rain", "matter sun",
            "against rain sun", "tell 4 bob cid rain wet by ann", "see 1 ann rain wet", "tell 2 ann bob rain damp",
            "see 6 bob sun dry", "tell 3 ann cid rain wet", "see 3 bob rain wet", "see 7 cid sun hot"]))
        self.assertEqual(self.told(world), [
            (1, True, [], [("ann", "rain")]),
            (2, True, [2], [("ann", "rain"), ("bob", "rain")]),
            (4, True, [2, 4], [("ann", "rain"), ("bob", "rain")]),
            (5, True, [2, 4], [("ann", "rain"), ("bob", "rain")]),
            (0, False, [2, 4], [("ann", "rain"), ("bob", "rain")]),
            (3, True, [2, 4], [("ann", "rain"), ("bob", "rain"), ("bob", "sun")]),
            (6, True, [2], [("ann", "rain"), ("bob", "rain"), ("bob", "sun"), ("cid", "sun")])])
        self.assert_wrong(world, [("ann", "cid"), ("bob", "cid")])


class Until(GoingTest):
    EVENTS = [see(8, "ann", "rain"), tell(3, "ann", "bob", "rain"), see(8, "bob", "sun"), see(0, "eve", "sun"),
              tell(5, "eve", "bob", "sun"), see(999999999, "cid", "wind")]

    def assert_until(self, time, wanted):
        world = world_of(self.EVENTS)
        before = copy.deepcopy(world)
        told = until_time(world, time)
        self.assertEqual(world, before)
        self.assertIs(type(told), tuple)
        self.assertEqual([type(part) for part in told], [list] * 4)
        self.assertEqual(told, (PEOPLE, MATTERS, AGAINST, [self.EVENTS[at] for at in wanted]))

    def test_ahead_of_the_events(self):
        world = world_of(self.EVENTS[:3])
        self.assertEqual(until_time(world, 2), world_of([]))
        self.assertEqual(until_time(world, 0), world_of([]))
        self.assertEqual(gone(until_time(world, 2)), [])

    def test_among_the_events(self):
        for time, wanted in ((1, [3]), (2, [3]), (4, [1, 3]), (6, [1, 3, 4]), (7, [1, 3, 4]), (9, [0, 1, 2, 3, 4])):
            self.assert_until(time, wanted)

    def test_just_at_an_event(self):
        for time, wanted in ((0, [3]), (3, [1, 3]), (5, [1, 3, 4]), (8, [0, 1, 2, 3, 4])):
            self.assert_until(time, wanted)

    def test_behind_the_events(self):
        for time in (999999999, 1000000000):
            self.assert_until(time, [0, 1, 2, 3, 4, 5])
        self.assertEqual(until_time(world_of(self.EVENTS[:5]), 8), world_of(self.EVENTS[:5]))

    def test_a_world_without_events(self):
        self.assertEqual(until_time(world_of([]), 5), world_of([]))

    def test_events_alike_stay(self):
        events = [see(2, "ann", "rain"), see(3, "ann", "rain")] * 3
        self.assertEqual(until_time(world_of(events), 2), world_of([events[0]] * 3))

    def test_what_is_told_is_a_world(self):
        world = world_of(self.EVENTS)
        for time in (0, 3, 7, 8):
            told = until_time(world, time)
            self.assertEqual(read_world(shown_world(told)), told)
            self.assertEqual(until_time(until_time(world, 8), time), told)

    def test_going_through_it_is_the_beginning_of_going_through_all(self):
        numbers = shuffled_numbers(23)
        for turn in range(40):
            world = some_world(numbers, PEOPLE, MATTERS, AGAINST, 20, range(8))
            steps = gone(world)
            for time in range(9):
                kept = [number for number, event in enumerate(world[3]) if event[1] <= time]
                begun = [(kept[number], taken, [kept[at] for at in live], held)
                         for number, taken, live, held in gone(until_time(world, time))]
                self.assertEqual(begun, steps[:len(kept)])


class Drawn(GoingTest):
    """Worlds held against a second finding, word by word."""

    def test_all_worlds_of_four_events_of_some(self):
        people = [("b", 1, 1, 1), ("a", 0, 1, 1), ("c", 1, 0, 1)]
        events = [see(0, "a", "x"), see(0, "b", "y"), see(0, "c", "x"), tell(0, "a", "c", "x"),
                  tell(0, "c", "b", "x"), tell(0, "a", "b", "x"), tell(0, "b", "c", "y")]
        for order in itertools.permutations(events, 4):
            self.told((people, ["x", "y"], [("y", "x")], list(order)))

    def test_some_small_worlds(self):
        numbers = shuffled_numbers(29)
        seen = {"died": 0, "lived": 0, "fell": 0, "both": 0, "teller": 0, "rank": 0, "against": 0, "wrong": 0}
        for turn in range(700):
            people = [(name, drawn(numbers, (3, 4, 5)), drawn(numbers, (0, 0, 4)), drawn(numbers, (1, 1, 1, 2)))
                      for name in ("b", "a", "d", "c")]
            matters = ["x", "y", "z"]
            against = drawn(numbers, ([("x", "y")], [("y", "x"), ("z", "y")], [("x", "z")]))
            world = some_world(numbers, people, matters, against, 24, drawn(numbers, (range(4), range(100), [5])))
            self.count(world, self.told(world), seen)
            self.assert_wrong(world, [(one[0], other[0]) for one in people for other in people
                                      if is_wrong(world, range(24), one[0], other[0])])
        # Worlds in which nothing of this comes to pass would show nothing.
        self.assertGreater(min(seen.values()), 20, seen)

    def count(self, world, steps, seen):
        taken = {step[0]: step[1] for step in steps}
        order = [step[0] for step in steps]
        for at, (ahead, behind) in enumerate(zip(steps, steps[1:]), start=1):
            seen["died"] += bool(set(ahead[2]) - set(behind[2]))
            seen["lived"] += bool(set(behind[2]) - set(ahead[2]) - {behind[0]})
            seen["fell"] += bool(set(ahead[3]) - set(behind[3]))
            seen["both"] += any((name, two) in behind[3] for name, one in behind[3] for two in ("x", "y", "z")
                                if (one, two) in world[2])
            if not behind[1]:
                reasons = reasons_against(world, order[:at], taken, world[3][behind[0]])
                if len(reasons) == 1:
                    seen[reasons[0]] += 1

    def test_some_worlds_of_ten_people_and_eighty_events(self):
        numbers = shuffled_numbers(31)
        matters = ["m", "n", "o", "p", "q", "r"]
        for turn in range(6):
            people = [(name, drawn(numbers, range(100)), drawn(numbers, range(50)), drawn(numbers, (1, 1, 2)))
                      for name in "jbcdefghia"]
            self.told(some_world(numbers, people, matters, [("m", "q"), ("o", "n")], 80, range(60)))

    def test_fifteen_againsts_and_the_most_of_all(self):
        numbers = shuffled_numbers(37)
        matters = ["m", "n", "o", "p", "q", "r"]
        people = [(name, 99, 0, 1) for name in "jbcdefghia"]
        pairs = [pair if at % 2 else pair[::-1] for at, pair in enumerate(itertools.combinations(matters, 2))]
        self.assertEqual(len(pairs), 15)
        self.told(some_world(numbers, people, matters, pairs, 80, range(999999000, 999999999)))


class Own(OwnChecks, GoingTest):
    EVENTS = FALLING + [see(6, "bob", "rain"), tell(6, "cid", "ann", "wind"), tell(7, "eve", "bob", "calm"),
                        see(8, "bob", "wind")]
    MANY = 60

    def asked(self, world):
        return [gone(world), wrong_pairs(world), until_time(world, 4), going_order(world[3]), until_time(world, 99)]

    def test_one_told_list_that_is_changed_changes_no_other(self):
        world = world_of(self.EVENTS)
        wanted = gone(world)
        for at in range(len(wanted)):
            for part in (2, 3):
                told = gone(world)
                told[at][part].append("spoilt")
                self.assertEqual([step for place, step in enumerate(told) if place != at],
                                 [step for place, step in enumerate(wanted) if place != at])
                self.assertEqual(told[at][5 - part], wanted[at][5 - part])


if __name__ == "__main__":
    unittest.main()
