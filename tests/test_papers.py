import copy
import itertools
import unittest

from helping import (AGAINST, MATTERS, NAMES, PEOPLE, OwnChecks, WalkTest, chains_within, drawn, end_due, holders_due,
                     live_due, most_apart, needs_due, people_with, see, shuffled_numbers, some_world, steps_due, tell,
                     web_due, world_of)
from quoteweave.going import gone
from quoteweave.papers import apart_of, ground_of, since_of, tellers_of, wordings_of

# Bob is told two matters by ann and finds her wrong at 5; both tells die. At 6 he sees what she told, and the
# other tell, of the wind, lives again. Cid has the wind by bob all the while.
DYING = [see(1, "ann", "rain"), see(1, "ann", "wind"), tell(2, "ann", "bob", "rain"), tell(3, "ann", "bob", "wind"),
         tell(4, "bob", "cid", "wind"), see(5, "bob", "sun")]
LIVING = DYING + [see(6, "bob", "rain")]


def through_due(world, end, person, matter):
    """Each chain to the person through those who hold the matter when the person is struck out."""
    edges, seers = web_due(world, *end, matter)
    left = web_due(world, *end, matter, person)[0]
    return chains_within(edges, seers, holders_due(left, seers, needs_due(world)), person)


def since_due(world, steps, person, matter):
    """The time of the last moment at which the pair came to be held, where it is held in the end."""
    ahead = [[]] + [step[3] for step in steps]
    came = [step[0] for step, held in zip(steps, ahead)
            if (person, matter) in step[3] and (person, matter) not in held]
    return world[3][came[-1]][1] if (person, matter) in ahead[-1] else None


def tellers_due(world, end, person, matter):
    return [number for number in live_due(world, *end) if world[3][number][3:5] == (person, matter)]


def wordings_due(world, end, person, matter):
    own = [(event[1], number, event[4]) for number, event in enumerate(world[3])
           if event[0] == "see" and event[2] == person and event[3] == matter]
    told = [(world[3][number][1], number, world[3][number][5]) for number in tellers_due(world, end, person, matter)]
    return [(number, word) for time, number, word in sorted(own + told)]


class PapersTest(WalkTest):
    def answer(self, ask, world, *names):
        """What is told; the world stays as it was."""
        before = copy.deepcopy(world)
        told = ask(world, *names)
        self.assertEqual(world, before)
        return told

    def assert_ground_of(self, world, matter, holders=None, end=None):
        told = self.answer(ground_of, world, matter)
        edges, seers = web_due(world, *(end or end_due(world)), matter)
        self.assert_holders(edges, seers, needs_due(world), told, holders)
        return told

    def assert_apart_of(self, world, person, matter, many=None, end=None):
        """The chains and the cut, held against a listing of all chains."""
        told = self.answer(apart_of, world, person, matter)
        self.assertIs(type(told), tuple)
        self.assertEqual([type(part) for part in told], [list, list])
        chains, cut = told
        for part in chains + [cut]:
            self.assertIs(type(part), list)
            self.assertEqual([type(name) for name in part], [str] * len(part))
        end = end or end_due(world)
        listed = through_due(world, end, person, matter)
        self.assert_apart(*web_due(world, *end, matter), person, chains)
        for chain in chains:
            self.assertIn(chain, listed, (world, person, matter))
        self.assertEqual(chains, sorted(chains))
        self.assertEqual(len(chains), most_apart(sorted(listed, key=len)), (world, person, matter))
        self.assertEqual(cut, sorted(set(cut)))
        self.assertEqual(len(cut), len(chains))
        self.assertNotIn(person, cut)
        for chain in listed:
            self.assertTrue(set(chain) & set(cut), (chain, cut))
        if many is not None:
            self.assertEqual(len(chains), many)
        return told

    def assert_tellers(self, world, person, matter, wanted):
        told = self.answer(tellers_of, world, person, matter)
        self.assertIs(type(told), list)
        self.assertEqual([type(number) for number in told], [int] * len(told))
        self.assertEqual(told, wanted, (world, person, matter))

    def assert_since(self, world, person, matter, wanted):
        told = self.answer(since_of, world, person, matter)
        self.assertIs(type(told), type(wanted))
        self.assertEqual(told, wanted, (world, person, matter))

    def assert_wordings(self, world, person, matter, wanted):
        told = self.answer(wordings_of, world, person, matter)
        self.assertIs(type(told), list)
        for pair in told:
            self.assertIs(type(pair), tuple)
            self.assertEqual([type(part) for part in pair], [int, str])
        self.assertEqual(told, wanted, (world, person, matter))


class Ground(PapersTest):
    def test_a_world_without_events(self):
        for matter in MATTERS:
            self.assertEqual(self.assert_ground_of(world_of([]), matter, []), ([], [(name, []) for name in NAMES]))

    def test_a_matter_that_nobody_has_seen(self):
        world = world_of([see(1, "ann", "rain"), tell(2, "ann", "bob", "wind")])
        self.assertEqual(self.assert_ground_of(world, "wind", []), ([], [(name, []) for name in NAMES]))

    def test_those_who_have_seen_it(self):
        world = world_of([see(4, "dan", "rain"), see(3, "ann", "rain"), see(2, "dan", "rain")])
        ground, cuts = self.assert_ground_of(world, "rain", ["ann", "dan"])
        self.assertEqual(sorted(ground), [("ann", []), ("dan", [])])
        self.assertEqual(cuts, [("bob", []), ("eve", []), ("cid", [])])

    def test_a_row_of_tells(self):
        events = [see(1, "dan", "rain"), tell(2, "dan", "cid", "rain"), tell(3, "cid", "ann", "rain"),
                  tell(4, "ann", "bob", "rain")]
        wanted = ([("dan", []), ("cid", [["dan"]]), ("ann", [["dan", "cid"]]), ("bob", [["dan", "cid", "ann"]])],
                  [("eve", [])])
        self.assertEqual(self.assert_ground_of(world_of(events), "rain"), wanted)
        self.assertEqual(self.assert_ground_of(world_of(events[::-1]), "rain"), wanted)

    def test_two_needed_and_one_had(self):
        people = people_with(("cid", 4, 4, 2))
        events = [see(1, "ann", "rain"), tell(2, "ann", "bob", "rain"), tell(3, "ann", "cid", "rain"),
                  tell(3, "bob", "cid", "rain")]
        ground, cuts = self.assert_ground_of(world_of(events, people), "rain", ["ann", "bob"])
        self.assertEqual(cuts, [("eve", []), ("cid", ["ann"]), ("dan", [])])
        ground, cuts = self.assert_ground_of(world_of(events + [see(9, "bob", "rain")], people), "rain",
                                             ["ann", "bob", "cid"])
        self.assertEqual(sorted(dict(ground)["cid"]), [["ann"], ["bob"]])

    def test_tells_of_other_matters(self):
        events = [see(1, "ann", "rain"), see(1, "ann", "wind"), tell(2, "ann", "bob", "wind"),
                  tell(3, "ann", "cid", "rain")]
        self.assert_ground_of(world_of(events), "rain", ["ann", "cid"])
        self.assert_ground_of(world_of(events), "wind", ["ann", "bob"])
        self.assert_ground_of(world_of(events), "sun", [])

    def test_tells_that_were_not_taken(self):
        people = people_with(("bob", 4, 5, 1))
        events = [see(1, "ann", "rain"), tell(2, "ann", "bob", "rain"), tell(3, "eve", "cid", "rain"),
                  tell(4, "ann", "dan", "rain")]
        self.assert_ground_of(world_of(events, people), "rain", ["ann", "dan"])

    def test_tells_that_died_and_live_again(self):
        self.assert_ground_of(world_of(DYING[:5]), "wind", ["ann", "bob", "cid"])
        self.assert_ground_of(world_of(DYING), "wind", ["ann"])
        self.assert_ground_of(world_of(DYING), "rain", ["ann"])
        self.assert_ground_of(world_of(LIVING), "wind", ["ann", "bob", "cid"])
        self.assertEqual(dict(ground_of(world_of(LIVING), "wind")[0])["cid"], [["ann", "bob"]])
        self.assertEqual(dict(ground_of(world_of(LIVING), "rain")[0]), {"ann": [], "bob": []})

    def test_the_moment_behind_all_events_whatever_their_order(self):
        for order in itertools.permutations(range(6)):
            self.assert_ground_of(world_of([DYING[at] for at in order]), "sun", ["bob"])
        self.assert_ground_of(world_of(LIVING[::-1]), "wind", ["ann", "bob", "cid"])

    def test_needs_of_one_to_four(self):
        for need in (1, 2, 3, 4):
            for many in range(5):
                events = [see(1, name, "rain") for name in NAMES[:4]]
                events += [tell(2, name, "dan", "rain") for name in NAMES[:many]]
                holders = NAMES if many >= need else NAMES[:4]
                world = world_of(events, people_with(("dan", 4, 4, need)))
                ground, cuts = self.assert_ground_of(world, "rain", holders)
                self.assertEqual(cuts, [] if many >= need else [("dan", sorted(NAMES[:many]))])


class Apart(PapersTest):
    def test_a_world_without_events(self):
        for name, matter in itertools.product(NAMES, MATTERS):
            self.assertEqual(self.assert_apart_of(world_of([]), name, matter), ([], []))

    def test_somebody_to_whom_nobody_told_it(self):
        world = world_of([see(1, "ann", "rain"), see(1, "ann", "wind"), tell(2, "ann", "bob", "wind"),
                          tell(2, "ann", "cid", "rain")])
        for name in ("bob", "eve", "dan", "ann"):
            self.assertEqual(self.assert_apart_of(world, name, "rain"), ([], []))

    def test_one_chain(self):
        events = [see(1, "ann", "rain"), tell(2, "ann", "bob", "rain"), tell(3, "bob", "cid", "rain")]
        self.assertEqual(self.assert_apart_of(world_of(events), "bob", "rain"), ([["ann"]], ["ann"]))
        self.assertEqual(self.assert_apart_of(world_of(events), "cid", "rain", 1)[0], [["ann", "bob"]])
        self.assertEqual(self.assert_apart_of(world_of(events[::-1]), "cid", "rain", 1)[0], [["ann", "bob"]])

    def test_somebody_who_has_seen_it_themself(self):
        """Their own seeing is no chain to them; what they are told is."""
        world = world_of([see(1, "ann", "rain"), see(1, "bob", "rain"), tell(2, "ann", "bob", "rain"),
                          see(3, "cid", "rain"), tell(4, "cid", "bob", "rain"), tell(5, "bob", "dan", "rain")])
        self.assertEqual(self.assert_apart_of(world, "bob", "rain"), ([["ann"], ["cid"]], ["ann", "cid"]))
        self.assertEqual(self.assert_apart_of(world, "ann", "rain"), ([], []))

    def test_two_ways_from_one_seer(self):
        world = world_of([see(1, "ann", "rain"), tell(2, "ann", "bob", "rain"), tell(2, "ann", "cid", "rain"),
                          tell(3, "bob", "dan", "rain"), tell(3, "cid", "dan", "rain"), tell(4, "ann", "dan", "rain")])
        self.assertEqual(self.assert_apart_of(world, "dan", "rain", 1)[1], ["ann"])

    def test_a_rumour_that_came_back_to_its_own_teller(self):
        events = [see(1, "ann", "rain"), tell(2, "ann", "bob", "rain"), tell(3, "bob", "cid", "rain"),
                  tell(4, "cid", "ann", "rain"), tell(4, "cid", "bob", "rain")]
        self.assertEqual(self.assert_apart_of(world_of(events), "ann", "rain"), ([], []))
        self.assertEqual(self.assert_apart_of(world_of(events), "bob", "rain"), ([["ann"]], ["ann"]))
        events += [see(5, "eve", "rain"), tell(6, "eve", "cid", "rain")]
        self.assertEqual(self.assert_apart_of(world_of(events), "ann", "rain", 1)[0], [["eve", "cid"]])
        self.assertEqual(self.assert_apart_of(world_of(events), "bob", "rain", 2)[0], [["ann"], ["eve", "cid"]])

    def test_a_rumour_that_came_back_by_a_chain_without_its_teller(self):
        """Cid needs two, eve's and bob's; so the chain by eve and cid to bob counts only where cid has another."""
        people = people_with(("cid", 4, 4, 2))
        events = [see(1, "ann", "rain"), see(1, "eve", "rain"), tell(2, "ann", "bob", "rain"),
                  tell(3, "bob", "cid", "rain"), tell(3, "eve", "cid", "rain"), tell(4, "cid", "bob", "rain")]
        self.assertIn(("cid", "rain"), gone(world_of(events, people))[-1][3])
        self.assertEqual(self.assert_apart_of(world_of(events, people), "bob", "rain"), ([["ann"]], ["ann"]))
        self.assert_apart_of(world_of(events), "bob", "rain", 2)
        more = [see(5, "dan", "rain"), tell(6, "dan", "cid", "rain")]
        self.assert_apart_of(world_of(events + more, people), "bob", "rain", 2)

    def test_a_rumour_that_came_back_in_a_wide_circle(self):
        events = [see(1, "ann", "rain"), tell(2, "ann", "bob", "rain"), tell(3, "bob", "cid", "rain"),
                  tell(4, "cid", "dan", "rain"), tell(5, "dan", "eve", "rain"), tell(6, "eve", "bob", "rain")]
        self.assertEqual(self.assert_apart_of(world_of(events), "bob", "rain"), ([["ann"]], ["ann"]))
        events += [tell(7, "ann", "dan", "rain"), see(8, "cid", "rain")]
        self.assert_apart_of(world_of(events), "bob", "rain", 2)

    def test_a_chain_through_somebody_who_does_not_hold_it(self):
        """Bob told it when he held it, and holds it no more; his tell is live."""
        events = [see(1, "ann", "rain"), see(1, "ann", "wind"), tell(2, "ann", "bob", "rain"),
                  tell(3, "bob", "cid", "rain"), tell(3, "ann", "bob", "wind")]
        self.assertEqual(self.assert_apart_of(world_of(events), "cid", "rain", 1)[0], [["ann", "bob"]])
        world = world_of(events + [see(4, "bob", "calm")])
        self.assertEqual(self.assert_apart_of(world, "cid", "rain"), ([], []))
        self.assert_tellers(world, "cid", "rain", [3])

    def test_tells_that_died_or_were_not_taken(self):
        people = people_with(("eve", 3, 4, 1))
        events = DYING + [see(1, "eve", "wind"), tell(7, "eve", "bob", "wind"), see(1, "dan", "wind")]
        self.assertEqual(self.assert_apart_of(world_of(events, people), "bob", "wind"), ([], []))
        events += [tell(8, "dan", "bob", "wind")]
        self.assertEqual(self.assert_apart_of(world_of(events, people), "bob", "wind"), ([["dan"]], ["dan"]))
        events += [see(9, "bob", "rain")]
        self.assertEqual(self.assert_apart_of(world_of(events, people), "bob", "wind", 2)[0], [["ann"], ["dan"]])

    def test_somebody_who_needs_more_than_they_have(self):
        events = [see(1, "ann", "rain"), see(1, "eve", "rain"), tell(2, "ann", "bob", "rain"),
                  tell(2, "eve", "bob", "rain")]
        for need in (1, 2, 3, 4):
            world = world_of(events, people_with(("bob", 4, 4, need)))
            self.assertEqual(self.assert_apart_of(world, "bob", "rain"), ([["ann"], ["eve"]], ["ann", "eve"]))

    def test_as_many_as_there_can_be(self):
        """Ann and eve each told cid and dan, so two chains must be chosen that don't meet."""
        for order in itertools.permutations([("ann", "cid"), ("ann", "dan"), ("eve", "cid")]):
            events = [see(1, "ann", "rain"), see(1, "eve", "rain")]
            events += [tell(2, one, other, "rain") for one, other in order]
            events += [tell(3, "cid", "bob", "rain"), tell(3, "dan", "bob", "rain")]
            told = self.assert_apart_of(world_of(events), "bob", "rain", 2)
            self.assertEqual(told[0], [["ann", "dan"], ["eve", "cid"]])

    def test_one_to_nine_seers(self):
        names = list("ihgfedcba")
        people = [(name, 4, 4, 1) for name in names + ["z"]]
        for many in range(10):
            events = [see(1, name, "rain") for name in names[:many]] + [tell(2, name, "z", "rain") for name in names]
            told = self.assert_apart_of((people, ["rain"], [], events), "z", "rain")
            self.assertEqual(told, ([[name] for name in sorted(names[:many])], sorted(names[:many])))


class Tellers(PapersTest):
    def test_a_world_without_events(self):
        self.assert_tellers(world_of([]), "ann", "rain", [])

    def test_each_live_tell_to_the_person(self):
        events = [see(1, "ann", "rain"), see(1, "eve", "rain"), tell(2, "ann", "bob", "rain"),
                  tell(3, "eve", "bob", "rain"), tell(4, "ann", "bob", "rain")]
        self.assert_tellers(world_of(events), "bob", "rain", [2, 3, 4])

    def test_rising_whatever_the_order_of_going_through(self):
        events = [tell(9, "ann", "bob", "rain"), tell(2, "ann", "bob", "rain"), see(1, "ann", "rain"),
                  tell(5, "ann", "bob", "rain"), tell(4, "ann", "bob", "rain")]
        self.assert_tellers(world_of(events), "bob", "rain", [0, 1, 3, 4])

    def test_tells_of_other_matters_and_to_others(self):
        events = [see(1, "ann", "rain"), see(1, "ann", "wind"), see(1, "bob", "rain"), tell(2, "ann", "bob", "wind"),
                  tell(3, "ann", "cid", "rain"), tell(4, "bob", "ann", "rain"), tell(5, "ann", "bob", "rain")]
        world = world_of(events)
        self.assert_tellers(world, "bob", "rain", [6])
        self.assert_tellers(world, "bob", "wind", [3])
        self.assert_tellers(world, "cid", "rain", [4])
        self.assert_tellers(world, "ann", "rain", [5])
        self.assert_tellers(world, "ann", "wind", [])
        self.assert_tellers(world, "dan", "rain", [])

    def test_tells_that_were_not_taken(self):
        people = people_with(("bob", 4, 5, 1))
        events = [see(1, "ann", "rain"), tell(2, "ann", "bob", "rain"), tell(2, "eve", "cid", "rain"),
                  tell(3, "ann", "cid", "rain")]
        self.assert_tellers(world_of(events, people), "bob", "rain", [])
        self.assert_tellers(world_of(events, people), "cid", "rain", [3])

    def test_tells_that_died_and_live_again(self):
        self.assert_tellers(world_of(DYING[:5]), "bob", "wind", [3])
        self.assert_tellers(world_of(DYING), "bob", "wind", [])
        self.assert_tellers(world_of(DYING), "bob", "rain", [])
        self.assert_tellers(world_of(DYING), "cid", "wind", [4])
        self.assert_tellers(world_of(LIVING), "bob", "wind", [3])
        self.assert_tellers(world_of(LIVING), "bob", "rain", [2])

    def test_the_tell_of_somebody_who_holds_it_no_more(self):
        """Cid does not hold the wind behind DYING, and the tell to cid is live yet."""
        self.assertNotIn(("cid", "wind"), gone(world_of(DYING))[-1][3])
        self.assert_tellers(world_of(DYING), "cid", "wind", [4])

    def test_sees_whose_wording_is_a_matter_and_whose_matter_is_a_person(self):
        people = [("ann", 4, 4, 1), ("bob", 4, 4, 1)]
        events = [see(1, "ann", "bob", "rain"), see(1, "bob", "bob", "rain"), see(1, "ann", "rain", "bob"),
                  tell(2, "ann", "bob", "bob", (), "rain"), tell(3, "ann", "bob", "rain", (), "bob")]
        world = (people, ["bob", "rain"], [], events)
        self.assert_tellers(world, "bob", "rain", [4])
        self.assert_tellers(world, "bob", "bob", [3])
        self.assert_wordings(world, "bob", "rain", [(4, "bob")])
        self.assert_wordings(world, "bob", "bob", [(1, "rain"), (3, "rain")])


class Since(PapersTest):
    def test_a_world_without_events(self):
        for name, matter in itertools.product(NAMES, MATTERS):
            self.assert_since(world_of([]), name, matter, None)

    def test_a_seer(self):
        world = world_of([see(7, "ann", "rain"), see(9, "ann", "rain"), see(8, "bob", "wind")])
        self.assert_since(world, "ann", "rain", 7)
        self.assert_since(world, "bob", "wind", 8)
        self.assert_since(world_of([see(9, "ann", "rain"), see(7, "ann", "rain")]), "ann", "rain", 7)

    def test_somebody_who_never_held_it(self):
        world = world_of([see(1, "ann", "rain"), tell(2, "bob", "cid", "rain"), see(3, "bob", "sun")])
        for name, matter in (("bob", "rain"), ("cid", "rain"), ("ann", "sun"), ("dan", "wind")):
            self.assert_since(world, name, matter, None)

    def test_somebody_who_was_told(self):
        events = [see(1, "ann", "rain"), tell(3, "ann", "bob", "rain"), tell(5, "ann", "bob", "rain"),
                  tell(6, "bob", "cid", "rain")]
        self.assert_since(world_of(events), "bob", "rain", 3)
        self.assert_since(world_of(events), "cid", "rain", 6)
        self.assert_since(world_of(events[::-1]), "cid", "rain", 6)

    def test_told_first_and_seen_later(self):
        events = [see(1, "ann", "rain"), tell(3, "ann", "bob", "rain"), see(5, "bob", "rain")]
        self.assert_since(world_of(events), "bob", "rain", 3)

    def test_two_needed(self):
        people = people_with(("bob", 4, 4, 2))
        events = [see(1, "ann", "rain"), see(1, "eve", "rain"), tell(3, "ann", "bob", "rain"),
                  tell(5, "ann", "bob", "rain"), tell(7, "eve", "bob", "rain"), tell(9, "eve", "bob", "rain")]
        self.assert_since(world_of(events, people), "bob", "rain", 7)
        self.assert_since(world_of(events[:4], people), "bob", "rain", None)

    def test_held_lost_and_held_again(self):
        self.assert_since(world_of(DYING[:5]), "bob", "wind", 3)
        self.assert_since(world_of(LIVING), "bob", "wind", 6)
        self.assert_since(world_of(LIVING + [tell(8, "ann", "bob", "wind")]), "bob", "wind", 6)
        self.assert_since(world_of(LIVING[::-1]), "bob", "wind", 6)
        self.assert_since(world_of(LIVING), "bob", "rain", 6)

    def test_held_again_by_somebody_else_s_seeing(self):
        """Cid has the wind by bob, who lost it for a while."""
        self.assert_since(world_of(DYING[:5]), "cid", "wind", 4)
        self.assert_since(world_of(DYING), "cid", "wind", None)
        self.assert_since(world_of(LIVING), "cid", "wind", 6)
        self.assert_since(world_of(DYING + [see(7, "bob", "wind")]), "cid", "wind", 7)

    def test_held_again_twice(self):
        """Ann is found wrong by bob twice, for the rain and for the calm, and each time no more."""
        against = [("rain", "sun"), ("sun", "calm")]
        events = LIVING + [see(9, "ann", "calm"), tell(9, "ann", "bob", "calm"), see(11, "bob", "calm")]
        for many, wanted in ((5, 3), (6, None), (7, 6), (8, 6), (9, None), (10, 11)):
            self.assert_since(world_of(events[:many], against=against), "bob", "wind", wanted)

    def test_somebody_who_holds_it_no_more(self):
        for name, matter in (("bob", "rain"), ("bob", "wind"), ("cid", "wind")):
            self.assertIn((name, matter), gone(world_of(DYING))[4][3])
            self.assert_since(world_of(DYING), name, matter, None)

    def test_events_of_one_time(self):
        events = [see(5, "ann", "rain"), see(5, "ann", "wind"), tell(5, "ann", "bob", "rain"),
                  tell(5, "ann", "bob", "wind"), see(5, "bob", "sun"), see(5, "bob", "rain")]
        self.assert_since(world_of(events[:3]), "bob", "wind", None)
        self.assert_since(world_of(events[:4]), "bob", "wind", 5)
        self.assert_since(world_of(events[:5]), "bob", "wind", None)
        self.assert_since(world_of(events), "bob", "wind", 5)

    def test_lost_and_held_again_at_one_time(self):
        events = DYING + [see(5, "bob", "rain")]
        self.assert_since(world_of(events), "bob", "wind", 5)
        self.assert_since(world_of(events), "cid", "wind", 5)
        # The other way about it is never lost.
        events = DYING[:5] + [see(5, "bob", "rain"), see(5, "bob", "sun")]
        self.assert_since(world_of(events), "bob", "wind", 3)
        self.assert_since(world_of(events), "cid", "wind", 4)

    def test_the_time_nought(self):
        events = [see(0, "ann", "rain"), tell(0, "ann", "bob", "rain"), see(4, "ann", "rain"),
                  tell(5, "ann", "bob", "rain")]
        self.assert_since(world_of(events), "ann", "rain", 0)
        self.assert_since(world_of(events), "bob", "rain", 0)

    def test_the_last_time(self):
        self.assert_since(world_of([see(999999999, "ann", "rain")]), "ann", "rain", 999999999)


class Wordings(PapersTest):
    def test_a_world_without_events(self):
        self.assert_wordings(world_of([]), "ann", "rain", [])

    def test_sees_and_tells(self):
        events = [see(1, "ann", "rain", "wet"), tell(2, "ann", "bob", "rain", (), "damp"),
                  see(3, "bob", "rain", "drops"), tell(4, "ann", "bob", "rain", (), "pours")]
        self.assert_wordings(world_of(events), "bob", "rain", [(1, "damp"), (2, "drops"), (3, "pours")])
        self.assert_wordings(world_of(events), "ann", "rain", [(0, "wet")])

    def test_the_order_of_going_through(self):
        events = [tell(9, "ann", "bob", "rain", (), "last"), see(4, "bob", "rain", "second"),
                  tell(2, "ann", "bob", "rain", (), "first"), see(1, "ann", "rain", "wet"),
                  see(5, "bob", "rain", "third")]
        self.assert_wordings(world_of(events), "bob", "rain", [(2, "first"), (1, "second"), (4, "third"), (0, "last")])

    def test_sees_and_tells_of_one_time(self):
        events = [see(6, "bob", "rain", "late"), see(1, "ann", "rain"), tell(3, "ann", "bob", "rain", (), "b"),
                  see(3, "bob", "rain", "a"), tell(3, "ann", "bob", "rain", (), "d"), see(3, "bob", "rain", "c"),
                  tell(2, "ann", "bob", "rain", (), "z")]
        self.assert_wordings(world_of(events), "bob", "rain",
                             [(6, "z"), (2, "b"), (3, "a"), (4, "d"), (5, "c"), (0, "late")])

    def test_one_wording_several_times(self):
        events = [see(1, "ann", "rain", "wet"), see(2, "ann", "rain", "wet"), see(2, "ann", "rain", "wet")]
        self.assert_wordings(world_of(events), "ann", "rain", [(0, "wet"), (1, "wet"), (2, "wet")])

    def test_other_people_s_and_other_matters(self):
        events = [see(1, "ann", "rain", "a"), see(1, "bob", "wind", "b"), tell(2, "ann", "cid", "rain", (), "c"),
                  tell(3, "bob", "ann", "wind", (), "d"), see(4, "bob", "rain", "e"),
                  tell(5, "bob", "cid", "rain", (), "f")]
        self.assert_wordings(world_of(events), "bob", "rain", [(4, "e")])
        self.assert_wordings(world_of(events), "bob", "wind", [(1, "b")])
        self.assert_wordings(world_of(events), "ann", "wind", [(3, "d")])
        self.assert_wordings(world_of(events), "cid", "rain", [(2, "c"), (5, "f")])
        self.assert_wordings(world_of(events), "dan", "rain", [])
        self.assert_wordings(world_of(events), "ann", "sun", [])

    def test_a_matter_with_the_name_of_somebody_who_was_told(self):
        """Ann tells bob; it is no see of hers of the matter bob."""
        people = [("ann", 4, 4, 1), ("bob", 4, 4, 1)]
        events = [see(1, "ann", "rain"), tell(2, "ann", "bob", "rain"), see(3, "ann", "bob", "tall"),
                  tell(4, "ann", "bob", "bob")]
        self.assert_wordings((people, ["rain", "bob"], [], events), "ann", "bob", [(2, "tall")])

    def test_tells_that_died_live_again_or_were_not_taken(self):
        self.assert_wordings(world_of(DYING), "bob", "wind", [])
        self.assert_wordings(world_of(DYING + [see(9, "bob", "wind", "blew")]), "bob", "wind", [(6, "blew")])
        self.assert_wordings(world_of(LIVING + [see(9, "bob", "wind", "blew")]), "bob", "wind",
                             [(3, "told"), (7, "blew")])
        people = people_with(("bob", 4, 5, 1))
        events = [see(1, "ann", "rain"), tell(2, "ann", "bob", "rain"), see(3, "bob", "rain", "wet")]
        self.assert_wordings(world_of(events, people), "bob", "rain", [(2, "wet")])

    def test_somebody_who_was_told_too_few_apart_to_hold_it(self):
        people = people_with(("bob", 4, 4, 2))
        events = [see(1, "ann", "rain"), tell(2, "ann", "bob", "rain", (), "wet")]
        self.assertNotIn(("bob", "rain"), gone(world_of(events, people))[-1][3])
        self.assert_wordings(world_of(events, people), "bob", "rain", [(1, "wet")])
        self.assert_tellers(world_of(events, people), "bob", "rain", [1])


def rumours(numbers, many):
    """One matter, two or three who see it first, and tells all round."""
    names = ["b", "a", "d", "c", "f", "e"]
    people = [(name, 4, 0, drawn(numbers, (1, 2, 2))) for name in names]
    tells = [event for event in some_world(numbers, people, ["x"], [], many, range(1, 50))[3] if event[0] == "tell"]
    return (people, ["x"], [], [see(0, drawn(numbers, names), "x") for turn in range(3)] + tells)


def quarrels(numbers, many):
    """Bob loses the wind and has it again, with other events between."""
    return world_of(LIVING + some_world(numbers, PEOPLE, MATTERS, AGAINST, many, range(8))[3])


class Drawn(PapersTest):
    """Worlds held against a second finding."""

    def assert_all(self, world, seen):
        steps = steps_due(world)
        end = ([step[0] for step in steps], {step[0]: step[1] for step in steps})
        for matter in world[1]:
            self.assert_ground_of(world, matter, [name for name, what in steps[-1][3] if what == matter], end)
            for name, need in needs_due(world):
                self.assert_pair(world, end, steps, name, matter)
                self.count(world, end, steps, name, matter, seen)

    def assert_pair(self, world, end, steps, name, matter):
        self.assert_apart_of(world, name, matter, None, end)
        self.assert_tellers(world, name, matter, tellers_due(world, end, name, matter))
        self.assert_since(world, name, matter, since_due(world, steps, name, matter))
        self.assert_wordings(world, name, matter, wordings_due(world, end, name, matter))

    def count(self, world, end, steps, name, matter, seen):
        edges, seers = web_due(world, *end, matter)
        holders = [person for person, what in steps[-1][3] if what == matter]
        through = chains_within(edges, seers, holders, name)
        holds = [(name, matter) in step[3] for step in steps]
        came = [one for one, other in zip(holds, [False] + holds) if one and not other]
        wordings = [number for number, word in wordings_due(world, end, name, matter)]
        many = len(apart_of(world, name, matter)[0])
        seen["several"] += many > 1
        seen["came back"] += most_apart(sorted(through, key=len)) > many
        seen["again"] += holds[-1] and len(came) > 1
        seen["no more"] += len(came) > 0 and not holds[-1]
        seen["turned"] += wordings != sorted(wordings)
        seen["told a seer"] += many > 0 and name in seers

    def test_some_worlds(self):
        numbers = shuffled_numbers(43)
        seen = {"several": 0, "came back": 0, "again": 0, "no more": 0, "turned": 0, "told a seer": 0}
        for turn in range(60):
            self.assert_all(rumours(numbers, 24 + turn % 20), seen)
        for turn in range(30):
            self.assert_all(quarrels(numbers, 4 + turn % 16), seen)
        # Worlds in which nothing of this comes to pass would show nothing.
        self.assertGreater(min(seen.values()), 5, seen)

    def test_some_worlds_of_ten_people(self):
        numbers = shuffled_numbers(47)
        for turn in range(3):
            people = [(name, 5, drawn(numbers, (0, 0, 0, 6)), drawn(numbers, (1, 1, 2))) for name in "jbcdefghia"]
            world = some_world(numbers, people, ["m", "n", "o"], [("m", "o")], 50, range(30))
            end = end_due(world)
            for matter in ("m", "n", "o"):
                self.assert_ground_of(world, matter, None, end)
                for name in "ajd":
                    self.assert_apart_of(world, name, matter, None, end)


class Own(OwnChecks, PapersTest):
    EVENTS = LIVING + [see(6, "eve", "wind"), tell(7, "eve", "cid", "wind"), tell(8, "cid", "dan", "wind")]
    MANY = 300

    def asked(self, world):
        told = [ground_of(world, matter) for matter in MATTERS]
        for name, matter in itertools.product(NAMES, MATTERS):
            told += [ask(world, name, matter) for ask in (apart_of, tellers_of, since_of, wordings_of)]
        return told


if __name__ == "__main__":
    unittest.main()
