import copy
import itertools
import unittest

from helping import (MATTERS, NAMES, PEOPLE, OwnChecks, WalkTest, drawn, end_due, held_due, live_due, needs_due,
                     people_with, see, shuffled_numbers, some_world, tell, web_due, world_of)
from quoteweave.going import gone
from quoteweave.strikes import hidden_of, leans_of, struck

# Ann saw it, and all others have it along a row of tells.
ROW = [see(1, "ann", "rain"), tell(2, "ann", "bob", "rain"), tell(3, "bob", "cid", "rain"),
       tell(4, "cid", "dan", "rain")]


class StrikesTest(WalkTest):
    def assert_struck(self, world, person, wanted=None, end=None):
        """What falls and what is left; the grounds and cuts walked."""
        end = end or end_due(world)
        before = copy.deepcopy(world)
        told = struck(world, person)
        self.assertEqual(world, before)
        self.assertIs(type(told), tuple)
        self.assertEqual([type(part) for part in told], [list, list])
        fallen, left = told
        self.assertEqual([type(pair) for pair in fallen], [tuple] * len(fallen))
        still = held_due(world, *end, person)
        self.assertEqual(fallen, [pair for pair in held_due(world, *end) if pair not in still], (world, person))
        self.assertEqual([type(entry) for entry in left], [tuple] * len(left))
        self.assertEqual([entry[0] for entry in left], world[1])
        for matter, ground, cuts in left:
            edges, seers = web_due(world, *end, matter, person)
            holders = [name for name, what in still if what == matter]
            self.assert_holders(edges, seers, needs_due(world), (ground, cuts), holders)
        if wanted is not None:
            self.assertEqual(fallen, wanted)
        return told

    def assert_names(self, ask, world, person, matter, wanted):
        before = copy.deepcopy(world)
        told = ask(world, person, matter)
        self.assertEqual(world, before)
        self.assertIs(type(told), list)
        self.assertEqual([type(name) for name in told], [str] * len(told))
        self.assertEqual(told, wanted, (world, person, matter))

    def assert_leans(self, world, person, matter, leans, hidden):
        self.assert_names(leans_of, world, person, matter, leans)
        self.assert_names(hidden_of, world, person, matter, hidden)


class Struck(StrikesTest):
    def test_a_world_without_events(self):
        for name in NAMES:
            fallen, left = self.assert_struck(world_of([]), name, [])
            self.assertEqual(left, [(matter, [], [(other, []) for other in NAMES]) for matter in MATTERS])

    def test_a_row_of_tells(self):
        world = world_of(ROW)
        self.assert_struck(world, "ann", [("bob", "rain"), ("cid", "rain"), ("dan", "rain")])
        self.assert_struck(world, "bob", [("cid", "rain"), ("dan", "rain")])
        self.assert_struck(world, "cid", [("dan", "rain")])
        self.assert_struck(world, "dan", [])
        self.assert_struck(world, "eve", [])

    def test_what_is_left_of_a_row_of_tells(self):
        fallen, left = self.assert_struck(world_of(ROW), "bob")
        self.assertEqual(left[1], ("rain", [("ann", []), ("bob", [["ann"]])], [("eve", []), ("cid", []), ("dan", [])]))
        self.assertEqual([entry for at, entry in enumerate(left) if at != 1],
                         [(matter, [], [(name, []) for name in NAMES]) for matter in ("sun", "wind", "calm")])

    def test_somebody_who_told_nothing(self):
        world = world_of(ROW)
        fallen, left = self.assert_struck(world, "dan", [])
        self.assertEqual(dict(left[1][1]), {"ann": [], "bob": [["ann"]], "cid": [["ann", "bob"]],
                                            "dan": [["ann", "bob", "cid"]]})

    def test_it_stays_where_somebody_else_tells_it_too(self):
        world = world_of(ROW + [see(5, "eve", "rain"), tell(6, "eve", "cid", "rain")])
        fallen, left = self.assert_struck(world, "bob", [])
        self.assertEqual(dict(left[1][1])["cid"], [["eve"]])
        self.assert_struck(world, "ann", [("bob", "rain")])
        self.assert_struck(world, "eve", [])
        self.assert_struck(world, "cid", [("dan", "rain")])

    def test_it_falls_where_the_other_has_it_from_them_alone(self):
        events = ROW[:2] + [tell(3, "bob", "cid", "rain"), tell(3, "bob", "eve", "rain"), tell(4, "eve", "cid", "rain")]
        self.assert_struck(world_of(events), "bob", [("eve", "rain"), ("cid", "rain")])
        self.assert_struck(world_of(events), "eve", [])

    def test_two_needed(self):
        people = people_with(("dan", 4, 4, 2))
        events = [see(1, "ann", "rain"), see(1, "eve", "rain"), tell(2, "ann", "dan", "rain"),
                  tell(2, "eve", "dan", "rain"), tell(3, "dan", "cid", "rain")]
        fallen, left = self.assert_struck(world_of(events, people), "eve", [("cid", "rain"), ("dan", "rain")])
        self.assertEqual(left[1][2], [("bob", []), ("cid", []), ("dan", ["ann"])])
        self.assert_struck(world_of(events), "eve", [])
        events += [see(1, "bob", "rain"), tell(4, "bob", "dan", "rain")]
        self.assert_struck(world_of(events, people), "eve", [])

    def test_whoever_has_seen_it_never_falls(self):
        events = ROW + [see(9, "cid", "rain"), see(9, "bob", "wind"), tell(9, "bob", "cid", "wind")]
        self.assert_struck(world_of(events), "ann", [("bob", "rain")])
        self.assert_struck(world_of(events), "bob", [("cid", "wind")])
        for name in NAMES:
            fallen = self.assert_struck(world_of([see(1, name, "rain") for name in NAMES] + ROW), name)[0]
            self.assertEqual(fallen, [])

    def test_one_s_own_seeing_stays(self):
        self.assertNotIn(("ann", "rain"), self.assert_struck(world_of(ROW), "ann")[0])
        self.assertEqual(dict(struck(world_of(ROW), "ann")[1][1][1]), {"ann": []})

    def test_what_they_hold_by_others_stays(self):
        for name in ("bob", "cid", "dan"):
            self.assertNotIn((name, "rain"), self.assert_struck(world_of(ROW), name)[0])

    def test_all_their_tells_of_all_matters(self):
        events = [see(1, "ann", "rain"), see(1, "ann", "wind"), tell(2, "ann", "dan", "wind"),
                  tell(2, "ann", "bob", "rain"), tell(2, "ann", "dan", "rain"), tell(2, "ann", "bob", "wind"),
                  tell(3, "ann", "bob", "wind")]
        self.assert_struck(world_of(events), "ann",
                           [("bob", "rain"), ("bob", "wind"), ("dan", "rain"), ("dan", "wind")])

    def test_the_order_of_the_fallen(self):
        names, matters = ["dan", "cid", "bob", "eve"], ["wind", "rain", "hail"]
        events = [see(1, "ann", matter) for matter in matters]
        events += [tell(2, "ann", name, matter) for matter in matters for name in sorted(names)]
        people = [(name, 4, 4, 1) for name in names[:2] + ["ann"] + names[2:]]
        world = (people, matters, [], events)
        self.assert_struck(world, "ann", [(name, matter) for name in names for matter in matters])
        turned = (people[::-1], matters[::-1], [], events)
        self.assert_struck(turned, "ann", [(name, matter) for name in names[::-1] for matter in matters[::-1]])

    def test_the_moment_behind_all_events(self):
        for order in itertools.permutations(ROW):
            self.assert_struck(world_of(order), "bob", [("cid", "rain"), ("dan", "rain")])


class Stay(StrikesTest):
    """All tells by others stay as they are, live or dead, whatever they came from."""

    def test_a_dead_tell_stays_dead(self):
        """Bob found cid wrong for the rain; whoever is struck out, the tell of the wind lives not again."""
        events = [see(1, "cid", "rain"), see(1, "cid", "wind"), tell(2, "cid", "bob", "wind"),
                  tell(3, "cid", "bob", "rain"), see(4, "bob", "sun")]
        world = world_of(events)
        self.assertEqual(live_due(world, *end_due(world)), [])
        for name in NAMES:
            self.assert_struck(world, name, [])

    def test_a_tell_not_taken_is_taken_no_more_than_before(self):
        """Bob has the sun by ann, so eve's tell of the rain was not taken; without ann it is not taken either."""
        events = [see(1, "ann", "sun"), tell(2, "ann", "bob", "sun"), see(1, "eve", "rain"),
                  tell(3, "eve", "bob", "rain")]
        fallen, left = self.assert_struck(world_of(events), "ann", [("bob", "sun")])
        self.assertEqual(dict(left[1][1]), {"eve": []})

    def test_a_tell_of_somebody_who_would_not_have_held_it_stays_live(self):
        """Bob told cid what he had from ann alone; since then he has it from eve, too."""
        events = [see(1, "ann", "rain"), tell(2, "ann", "bob", "rain"), tell(3, "bob", "cid", "rain"),
                  see(4, "eve", "rain"), tell(5, "eve", "bob", "rain")]
        fallen, left = self.assert_struck(world_of(events), "ann", [])
        self.assertEqual(dict(left[1][1])["cid"], [["eve", "bob"]])

    def test_a_tell_that_was_live_stays_live_where_its_teller_falls(self):
        """Bob falls without ann, cid not, since he has it by dan, too."""
        events = ROW[:3] + [see(3, "dan", "rain"), tell(4, "dan", "cid", "rain")]
        self.assert_struck(world_of(events), "ann", [("bob", "rain")])

    def test_who_is_found_wrong_stays_so(self):
        """Ann is found wrong by bob, for her tells; struck out, she is so yet, and others' tells are as they were."""
        events = [see(1, "ann", "rain"), tell(2, "ann", "bob", "rain"), see(3, "bob", "sun"),
                  tell(4, "bob", "cid", "sun"), see(1, "dan", "rain"), tell(5, "dan", "cid", "rain")]
        world = world_of(events)
        self.assertEqual(gone(world)[-1][2], [3])
        self.assert_struck(world, "ann", [])
        self.assert_struck(world, "bob", [("cid", "sun")])
        self.assert_struck(world, "dan", [])


class Leans(StrikesTest):
    def test_a_pair_that_is_not_held(self):
        world = world_of(ROW)
        for name, matter in (("eve", "rain"), ("ann", "wind"), ("bob", "sun"), ("dan", "calm")):
            self.assert_leans(world, name, matter, [], [])
        self.assert_leans(world_of([]), "ann", "rain", [], [])

    def test_a_pair_that_is_held_no_more(self):
        events = ROW + [see(9, "bob", "sun")]
        for name in ("bob", "cid", "dan"):
            self.assertNotIn((name, "rain"), gone(world_of(events))[-1][3])
            self.assert_leans(world_of(events), name, "rain", [], [])

    def test_somebody_who_has_too_few(self):
        people = people_with(("bob", 4, 4, 2))
        self.assert_leans(world_of(ROW[:2], people), "bob", "rain", [], [])

    def test_a_seer(self):
        self.assert_leans(world_of(ROW), "ann", "rain", [], [])
        self.assert_leans(world_of(ROW + [see(9, "dan", "rain")]), "dan", "rain", [], [])

    def test_a_row_of_tells(self):
        """In the order of the people: bob, ann, eve, cid, dan."""
        world = world_of(ROW)
        self.assert_leans(world, "bob", "rain", ["ann"], [])
        self.assert_leans(world, "cid", "rain", ["bob", "ann"], ["ann"])
        self.assert_leans(world, "dan", "rain", ["bob", "ann", "cid"], ["bob", "ann"])

    def test_the_order_of_the_people(self):
        for order in itertools.permutations(PEOPLE):
            names = [person[0] for person in order]
            world = world_of(ROW, order)
            self.assert_leans(world, "dan", "rain", [name for name in names if name in ("ann", "bob", "cid")],
                              [name for name in names if name in ("ann", "bob")])

    def test_two_ways(self):
        """Dan has it by cid and by eve, and both have it from ann."""
        events = [see(1, "ann", "rain"), tell(2, "ann", "cid", "rain"), tell(2, "ann", "eve", "rain"),
                  tell(3, "cid", "dan", "rain"), tell(3, "eve", "dan", "rain")]
        self.assert_leans(world_of(events), "dan", "rain", ["ann"], ["ann"])
        self.assert_leans(world_of(events + [tell(4, "ann", "dan", "rain")]), "dan", "rain", ["ann"], [])
        self.assert_leans(world_of(events + [see(5, "bob", "rain"), tell(6, "bob", "eve", "rain")]), "dan", "rain",
                          [], [])

    def test_two_needed(self):
        people = people_with(("dan", 4, 4, 2))
        events = [see(1, "ann", "rain"), see(1, "eve", "rain"), tell(2, "ann", "cid", "rain"),
                  tell(3, "cid", "dan", "rain"), tell(3, "eve", "dan", "rain")]
        self.assert_leans(world_of(events, people), "dan", "rain", ["ann", "eve", "cid"], ["ann"])
        self.assert_leans(world_of(events), "dan", "rain", [], [])
        events += [see(4, "bob", "rain"), tell(5, "bob", "dan", "rain")]
        self.assert_leans(world_of(events, people), "dan", "rain", [], [])

    def test_nobody_leans_on_oneself(self):
        """The rumour comes back to its own teller, and goes on from there."""
        events = ROW + [tell(5, "dan", "bob", "rain"), tell(6, "bob", "ann", "rain"), tell(7, "cid", "bob", "rain")]
        for need in (1, 2):
            world = world_of(events, people_with(("cid", 4, 4, need)))
            for name, matter in itertools.product(NAMES, MATTERS):
                self.assertNotIn(name, leans_of(world, name, matter))
                self.assertNotIn((name, matter), self.assert_struck(world, name)[0])

    def test_hidden_who_told_another_matter_or_somebody_else(self):
        events = ROW[:3] + [see(1, "ann", "wind"), tell(5, "ann", "cid", "wind"), tell(6, "ann", "dan", "rain")]
        self.assert_leans(world_of(events), "cid", "rain", ["bob", "ann"], ["ann"])
        self.assert_leans(world_of(events), "cid", "wind", ["ann"], [])

    def test_hidden_whose_tell_to_the_person_is_not_live(self):
        """Ann told cid herself, and it was not taken, her rank being too low for him; bob's is not."""
        people = people_with(("ann", 4, 4, 1), ("bob", 6, 4, 1), ("cid", 4, 5, 1))
        events = ROW[:2] + [tell(3, "ann", "cid", "rain"), tell(4, "bob", "cid", "rain")]
        self.assert_leans(world_of(events, people), "cid", "rain", ["bob", "ann"], ["ann"])
        self.assert_leans(world_of(events), "cid", "rain", ["ann"], [])
        # Ann told cid herself, and he found her wrong by it: her tell died.
        events = [see(1, "ann", "rain"), see(1, "ann", "wind"), tell(2, "ann", "cid", "wind"),
                  tell(2, "ann", "bob", "wind"), tell(3, "bob", "cid", "wind"), tell(4, "ann", "cid", "rain"),
                  see(5, "cid", "sun")]
        self.assertEqual(gone(world_of(events))[-1][2], [3, 4])
        self.assert_leans(world_of(events), "cid", "wind", ["bob", "ann"], ["ann"])
        self.assert_leans(world_of(events + [see(6, "cid", "rain")]), "cid", "wind", ["ann"], [])

    def test_somebody_leaned_on_who_told_the_person_too(self):
        """Dan has it from cid and from ann herself; he leans on her alone, and she is not hidden."""
        self.assert_leans(world_of(ROW + [tell(9, "ann", "dan", "rain")]), "dan", "rain", ["ann"], [])


class Drawn(StrikesTest):
    def some(self, numbers, names, matters, many):
        """Few sees, so that most is held by tells of tells."""
        people = [(name, 4, drawn(numbers, (0, 0, 0, 0, 0, 5)), drawn(numbers, (1, 1, 1, 1, 2))) for name in names]
        against = [(matters[0], matters[-1])] if len(matters) > 1 else []
        events = [event for event in some_world(numbers, people, matters, against, many, range(1, 40))[3]
                  if event[0] == "tell" or next(numbers) % 9 == 0]
        return (people, list(matters), against, events + [see(0, drawn(numbers, names), matter) for matter in matters])

    def test_some_worlds(self):
        numbers = shuffled_numbers(59)
        seen = {"fell": 0, "several": 0, "hidden": 0, "direct": 0, "on nobody": 0}
        for turn in range(50):
            world = self.some(numbers, ["b", "a", "e", "d", "f", "c"], ["x", "y", "z"][:1 + turn % 3], 20 + turn % 30)
            end = end_due(world)
            held = held_due(world, *end)
            still = {name: held_due(world, *end, name) for name, need in needs_due(world)}
            for name in still:
                seen["fell"] += len(self.assert_struck(world, name, None, end)[0]) > 0
                for matter in world[1]:
                    self.assert_pair(world, end, held, still, name, matter, seen)
        # Worlds in which nothing of this comes to pass would show nothing.
        self.assertGreater(min(seen.values()), 10, seen)

    def assert_pair(self, world, end, held, still, name, matter, seen):
        leans = [other for other in still if (name, matter) in held and (name, matter) not in still[other]]
        tellers = [world[3][at][2] for at in live_due(world, *end) if world[3][at][3:5] == (name, matter)]
        hidden = [other for other in leans if other not in tellers]
        self.assert_leans(world, name, matter, leans, hidden)
        seen["several"] += len(leans) > 1
        seen["hidden"] += len(hidden) > 0
        seen["direct"] += len(hidden) < len(leans)
        seen["on nobody"] += (name, matter) in held and len(leans) == 0 and len(tellers) > 0

    def test_some_worlds_of_ten_people(self):
        numbers = shuffled_numbers(61)
        for turn in range(3):
            world = self.some(numbers, list("jbcdefghia"), ["m", "n", "o"], 60)
            end = end_due(world)
            for name in ("a", "j", "e"):
                self.assert_struck(world, name, None, end)


class Own(OwnChecks, StrikesTest):
    EVENTS = ROW + [see(5, "eve", "wind"), tell(6, "eve", "dan", "wind"), tell(7, "eve", "bob", "rain"),
                    tell(8, "dan", "ann", "wind"), tell(9, "bob", "dan", "rain")]
    MANY = 300

    def asked(self, world):
        told = [struck(world, name) for name in NAMES]
        for name, matter in itertools.product(NAMES, MATTERS):
            told += [leans_of(world, name, matter), hidden_of(world, name, matter)]
        return told


if __name__ == "__main__":
    unittest.main()
