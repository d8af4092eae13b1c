import copy
import itertools
import unittest

from helping import WalkTest, drawn, has_enough, lists_in, shuffled_numbers, some_web, spoil, subsets
from quoteweave.chains import apart_chains
from quoteweave.holders import ground_by

TEN = list("abcdefghij")


def needing(number, names):
    """The people, each of whom needs so many."""
    return [(name, number) for name in names]


def least_closed(edges, seers, needs):
    """The least of all sets of people with the seers in it and everybody who has enough chains through it."""
    people = [name for name, number in needs]
    closed = []
    for chosen in subsets(people):
        if set(seers) <= set(chosen):
            others = [pair for pair in needs if pair[0] not in chosen]
            if not any(has_enough(edges, seers, chosen, name, number) for name, number in others):
                closed.append(set(chosen))
    least = set.intersection(*closed)
    assert least in closed
    return least


class HoldersTest(WalkTest):
    def told(self, edges, seers, needs):
        """What is told, its kinds and what was handed in looked at."""
        before = copy.deepcopy((edges, seers, needs))
        told = ground_by(edges, seers, needs)
        self.assertEqual((edges, seers, needs), before)
        self.assert_told_kinds(told)
        return told

    def assert_web(self, edges, seers, needs, holders=None):
        """All that is promised of the web; its holders are told by hand or found a second time."""
        told = self.told(edges, seers, needs)
        self.assert_holders(edges, seers, needs, told, holders)
        return told

    def assert_all_orders(self, edges, seers, needs, holders):
        """The holders are the same whatever the order of the people and of the edges."""
        for order in itertools.permutations(needs):
            self.assert_web(edges, seers, list(order), holders)
            self.assert_web(edges[::-1], seers[::-1], list(order), holders)


class Seers(HoldersTest):
    def test_no_seer(self):
        edges = [("a", "b"), ("b", "c"), ("c", "a"), ("a", "a")]
        self.assertEqual(self.assert_web(edges, [], needing(1, "abc")), ([], [("a", []), ("b", []), ("c", [])]))
        self.assert_web(edges, [], needing(3, "ba"), [])
        self.assert_web([], [], needing(1, "ba"), [])

    def test_all_people_seers(self):
        for edges in ([], [("a", "b"), ("b", "a"), ("c", "c")]):
            ground, cuts = self.assert_web(edges, ["c", "a", "b"], needing(2, "abc"), "abc")
            self.assertEqual(sorted(ground), [("a", []), ("b", []), ("c", [])])
            self.assertEqual(cuts, [])

    def test_a_seer_twice(self):
        ground, cuts = self.assert_web([("a", "b"), ("a", "c")], ["a", "a"], [("c", 2), ("a", 3), ("b", 1)], "ab")
        self.assertEqual(ground, [("a", []), ("b", [["a"]])])
        self.assertEqual(cuts, [("c", ["a"])])
        self.assert_web([("a", "c"), ("b", "c")], ["b", "a", "b", "a", "a"], needing(2, "abc"), "abc")

    def test_a_seer_is_one_chain_alone_however_often_told(self):
        self.assert_web([("a", "b"), ("a", "b")], ["a", "a"], needing(2, "ab"), "a")

    def test_a_seer_without_an_edge(self):
        self.assertEqual(self.assert_web([], ["b"], needing(1, "ab")), ([("b", [])], [("a", [])]))

    def test_edges_into_seers(self):
        edges = [("a", "b"), ("b", "a"), ("c", "a"), ("b", "c")]
        ground, cuts = self.assert_web(edges, ["a", "b"], needing(1, "cba"), "abc")
        self.assertEqual(dict(ground)["a"], [])
        self.assertEqual(dict(ground)["b"], [])
        self.assertEqual(dict(ground)["c"], [["b"]])

    def test_a_seer_s_own_need_counts_for_nothing(self):
        self.assert_web([("a", "b")], ["a"], [("a", 5), ("b", 1)], "ab")

    def test_no_people(self):
        self.assertEqual(self.told([], [], []), ([], []))


class Needs(HoldersTest):
    def test_needs_of_one_to_five(self):
        for number in range(1, 6):
            for many in range(0, 8):
                names = TEN[:many]
                edges = [(name, "z") for name in names]
                needs = [("z", number)] + needing(1, names)
                holders = names + ["z"] if many >= number else names
                ground, cuts = self.assert_web(edges, names, needs, holders)
                if many >= number:
                    self.assertEqual(len(dict(ground)["z"]), number)
                else:
                    self.assertEqual(cuts, [("z", names)])

    def test_needs_of_one_to_five_behind_middlemen(self):
        seers, middle = list("abcdef"), list("ghijkl")
        for number in range(1, 6):
            for many in range(0, 7):
                edges = list(zip(seers, middle)) + [(name, "z") for name in middle[:many]]
                holders = seers + middle + (["z"] if many >= number else [])
                self.assert_web(edges, seers, needing(1, seers + middle) + [("z", number)], holders)

    def test_more_chains_than_needed(self):
        ground, cuts = self.assert_web([(name, "z") for name in "abcd"], list("abcd"), needing(2, "abcdz"), "abcdz")
        self.assertEqual(len(dict(ground)["z"]), 2)

    def test_people_whose_needs_differ(self):
        edges = [("a", "c"), ("b", "c"), ("a", "d"), ("b", "d"), ("a", "e"), ("b", "e")]
        self.assert_all_orders(edges, ["a", "b"], [("a", 1), ("b", 4), ("c", 1), ("d", 2), ("e", 3)], "abcd")

    def test_chains_that_meet_in_one_name_are_one(self):
        edges = [("a", "m"), ("b", "m"), ("m", "x"), ("m", "y"), ("x", "z"), ("y", "z")]
        needs = needing(1, "abmxy") + [("z", 2)]
        ground, cuts = self.assert_web(edges, ["a", "b"], needs, "abmxy")
        self.assertEqual(cuts, [("z", ["m"])])

    def test_a_cut_of_several_names(self):
        edges = list(itertools.product("ab", "xyz")) + [(name, "g") for name in "xyz"]
        ground, cuts = self.assert_web(edges, ["a", "b"], needing(1, "abxyz") + [("g", 3)], "abxyz")
        self.assertEqual(cuts, [("g", ["a", "b"])])

    def test_more_than_is_in_the_bounds(self):
        names = TEN + ["k", "l", "m"]
        edges = list(itertools.product(names, repeat=2))
        self.assert_ground(edges, names[:7], needing(7, names), self.told(edges, names[:7], needing(7, names))[0])
        self.assertEqual(len(self.told(edges, names[:7], needing(7, names))[0]), 13)
        self.assertEqual(self.told(edges, names[:7], needing(8, names))[1], [(name, names[:7]) for name in names[7:]])


class Webs(HoldersTest):
    def test_edges_have_one_way(self):
        self.assert_all_orders([("b", "a"), ("c", "b")], ["a"], needing(1, "abc"), "a")

    def test_edges_from_a_name_to_itself(self):
        self.assert_all_orders([("b", "b"), ("a", "a"), ("a", "c"), ("c", "c")], ["a"], needing(1, "abc"), "ac")
        self.assert_web([("a", "b"), ("b", "b")], ["a"], needing(2, "ab"), "a")

    def test_doubled_edges(self):
        self.assert_web([("a", "b")] * 5, ["a"], needing(2, "ab"), "a")
        self.assert_web([("a", "c"), ("b", "c"), ("a", "c"), ("b", "c")], ["a", "b"], needing(2, "abc"), "abc")
        self.assert_web([("a", "c"), ("b", "c"), ("a", "c"), ("b", "c")], ["a", "b"], needing(3, "abc"), "ab")

    def test_loops(self):
        edges = [("a", "b"), ("b", "c"), ("c", "b"), ("c", "d"), ("d", "a")]
        self.assert_all_orders(edges, ["a"], needing(1, "abcd"), "abcd")
        self.assert_all_orders(edges, ["a"], [("a", 1), ("b", 1), ("c", 2), ("d", 1)], "ab")

    def test_a_row_of_people_in_any_order(self):
        self.assert_all_orders(list(zip("abcde", "bcdef")), ["a"], needing(1, "abcdef"), "abcdef")
        self.assert_all_orders(list(zip("abcde", "bcdef")), ["c"], needing(1, "abcdef"), "cdef")

    def test_somebody_found_only_when_another_has_been_found(self):
        """d has a second chain through c alone, and e through d alone."""
        edges = [("a", "c"), ("b", "c"), ("a", "d"), ("c", "d"), ("b", "e"), ("d", "e")]
        self.assert_all_orders(edges, ["a", "b"], [("a", 1), ("b", 1), ("c", 2), ("d", 2), ("e", 2)], "abcde")

    def test_somebody_whose_second_chain_goes_through_one_found_late(self):
        edges = [("a", "d"), ("b", "m"), ("c", "m"), ("m", "d"), ("d", "e"), ("c", "e")]
        needs = [("a", 1), ("b", 1), ("c", 1), ("m", 2), ("d", 2), ("e", 2)]
        self.assert_all_orders(edges, ["a", "b", "c"], needs, "abcdem")
        self.assert_all_orders(edges, ["a", "b"], needs, "ab")

    def test_a_circle_with_no_seer_behind_it(self):
        circle = [("c", "d"), ("d", "e"), ("e", "c")]
        self.assert_all_orders(circle, ["a"], needing(1, "acde"), "a")
        self.assert_all_orders(circle + [("c", "a"), ("a", "b")], ["a"], needing(1, "abcde"), "ab")
        self.assert_all_orders(circle + [("a", "d")], ["a"], needing(1, "acde"), "acde")

    def test_a_circle_in_which_each_wants_another_first(self):
        """Each has one chain from the seers and would have a second through the other one."""
        edges = [("a", "c"), ("b", "d"), ("c", "d"), ("d", "c")]
        needs = [("a", 1), ("b", 1), ("c", 2), ("d", 2)]
        self.assert_all_orders(edges, ["a", "b"], needs, "ab")
        self.assert_all_orders(edges + [("b", "c")], ["a", "b"], needs, "abcd")

    def test_a_chain_through_somebody_who_does_not_hold(self):
        edges = [("a", "m"), ("m", "z")]
        ground, cuts = self.assert_web(edges, ["a"], [("z", 1), ("m", 2), ("a", 1)], "a")
        self.assertEqual(cuts, [("z", []), ("m", ["a"])])

    def test_a_chain_goes_not_through_its_own_goal(self):
        """The one who comes by z's own telling is no second chain to z."""
        edges = [("a", "z"), ("z", "m"), ("m", "z")]
        self.assert_all_orders(edges, ["a"], [("a", 1), ("m", 1), ("z", 2)], "a")

    def test_chains_that_must_give_way(self):
        edges = [("a", "x"), ("a", "y"), ("b", "x"), ("x", "z"), ("y", "z")]
        ground, cuts = self.assert_web(edges, ["a", "b"], needing(1, "abxy") + [("z", 2)], "abxyz")
        self.assertEqual(sorted(dict(ground)["z"]), [["a", "y"], ["b", "x"]])

    def test_a_seer_within_a_chain(self):
        edges = [("a", "b"), ("b", "z"), ("a", "c"), ("c", "z")]
        self.assert_all_orders(edges, ["a", "b"], [("a", 1), ("b", 1), ("c", 1), ("z", 2)], "abcz")

    def test_names_in_edges_that_are_no_people(self):
        """Only people hold, so no chain goes through another name, and no cut has one."""
        edges = [("a", "x"), ("x", "b"), ("a", "y"), ("y", "b"), ("a", "b")]
        ground, cuts = self.assert_web(edges, ["a"], [("b", 2), ("a", 1)], "a")
        self.assertEqual(cuts, [("b", ["a"])])
        self.assert_web(edges[:4], ["a"], [("b", 1), ("a", 1)], "a")

    def test_people_whom_no_edge_names(self):
        ground, cuts = self.assert_web([("a", "b")], ["a"], needing(1, "zayb"), "ab")
        self.assertEqual(cuts, [("z", []), ("y", [])])


class Order(HoldersTest):
    def test_cuts_in_the_order_of_needs(self):
        edges = [("a", name) for name in "bcdef"]
        for names in ("fedcba", "abcdef", "cafebd", "dbaefc"):
            cuts = self.assert_web(edges, ["a"], needing(2, names), "a")[1]
            self.assertEqual(cuts, [(name, ["a"]) for name in names if name != "a"])

    def test_each_cut_is_sorted(self):
        for seers in itertools.permutations("dbca"):
            edges = [(name, "z") for name in seers]
            cuts = self.assert_web(edges, list(seers), needing(5, "zcadb"), "abcd")[1]
            self.assertEqual(cuts, [("z", list("abcd"))])

    def test_names_of_any_form(self):
        for names in (("to", "from", "begin"), ("by", "see", "tell"), ("see", "cut", "ground"), ("to", "goal", "a")):
            edges = list(zip(names, names[1:]))
            told = self.assert_web(edges, [names[0]], needing(1, names), names)
            self.assertEqual(told[0][2], (names[2], [[names[0], names[1]]]))


class Listed(HoldersTest):
    """Webs held against a listing of all sets of people."""

    def assert_listed(self, edges, seers, needs):
        self.assert_web(edges, seers, needs, least_closed(edges, seers, needs))

    def test_all_webs_of_three_people(self):
        pairs = list(itertools.permutations("abc", 2))
        for edges in subsets(pairs):
            for seers in (["a"], ["b"], ["c", "a"], ["a", "b", "a"]):
                for numbers in itertools.product((1, 2), repeat=3):
                    self.assert_listed(edges, seers, list(zip("bac", numbers)))

    def test_some_webs_of_four_people_with_loops(self):
        pairs = list(itertools.product("abcd", repeat=2))
        for mask in range(5, 2 ** 16, 97):
            edges = [pair for at, pair in enumerate(pairs) if mask >> at & 1]
            seers = [name for at, name in enumerate("abcd") if mask >> (at * 2) & 1]
            needs = [(name, mask // (at + 3) % 3 + 1) for at, name in enumerate("dbca")]
            self.assert_listed(edges, seers, needs)

    def test_some_webs_of_five_people(self):
        numbers = shuffled_numbers(3)
        for turn in range(300):
            edges = some_web(numbers, list("abcde"), 6 + next(numbers) % 10)
            seers = [drawn(numbers, "abcde") for at in range(1 + next(numbers) % 3)]
            needs = [(name, drawn(numbers, (1, 1, 2, 2, 3))) for name in "ecbda"]
            self.assert_listed(edges, seers, needs)

    def test_some_webs_of_six_to_ten_people(self):
        numbers = shuffled_numbers(5)
        late = 0
        for turn in range(400):
            names = TEN[:6 + turn % 5]
            edges = some_web(numbers, names, len(names) + next(numbers) % 12)
            seers = [drawn(numbers, names) for at in range(1 + next(numbers) % 4)]
            needs = [(name, drawn(numbers, (1, 1, 2, 2, 3, 4))) for name in names]
            ground, cuts = self.assert_web(edges, seers, needs)
            late += any(set(chain) - set(seers) for name, chains in ground for chain in chains)
        self.assertGreater(late, 40)

    def test_a_web_of_ten_people_and_two_hundred_edges(self):
        edges = list(itertools.product(TEN, repeat=2)) * 2
        for many in range(0, 11):
            for number in range(1, 6):
                seers = TEN[:many]
                ground, cuts = self.told(edges, seers, needing(number, TEN))
                self.assert_ground(edges, seers, needing(number, TEN), ground)
                self.assertEqual(len(ground), 10 if many >= number else many)
                self.assertEqual([name for name, cut in cuts], [] if many >= number else TEN[many:])
                for name, cut in cuts:
                    self.assertEqual(cut, sorted(set(cut) - {name}))
                    self.assertLess(len(cut), number)
                    # Each seer is a chain to everybody, and each chain begins with a seer.
                    self.assertLessEqual(set(seers), set(cut))


class Own(HoldersTest):
    EDGES = [("a", "c"), ("b", "c"), ("c", "d"), ("a", "e"), ("a", "f"), ("f", "g"), ("a", "a")]
    SEERS = ["b", "a", "a"]
    NEEDS = [("a", 1), ("b", 1), ("c", 2), ("d", 1), ("e", 2), ("f", 1), ("g", 3), ("h", 1)]

    def asked(self):
        return ground_by(self.EDGES, self.SEERS, self.NEEDS)

    def test_no_two_lists_are_one(self):
        told = [self.asked(), self.asked(), ground_by([], [], []), ground_by([], ["a", "b"], self.NEEDS)]
        lists = lists_in(told) + [self.EDGES, self.SEERS, self.NEEDS]
        self.assertGreater(len(lists), 30)
        for one, other in itertools.combinations(lists, 2):
            self.assertIsNot(one, other)

    def test_told_lists_that_are_changed(self):
        before = copy.deepcopy((self.EDGES, self.SEERS, self.NEEDS))
        kept = self.asked()
        wanted = copy.deepcopy(kept)
        for turn in range(3):
            told = self.asked()
            self.assertEqual(told, wanted)
            spoil(told)
            self.assertNotEqual(told, wanted)
            self.assertEqual(kept, wanted)
            self.assertEqual((self.EDGES, self.SEERS, self.NEEDS), before)
        self.assertEqual(self.asked(), wanted)

    def test_handed_in_lists_that_are_changed_behind_the_answer(self):
        edges, seers, needs = list(self.EDGES), list(self.SEERS), list(self.NEEDS)
        told = ground_by(edges, seers, needs)
        wanted = copy.deepcopy(told)
        edges.clear()
        seers.append("x")
        needs.reverse()
        self.assertEqual(told, wanted)

    def test_chains_asked_between_change_nothing(self):
        wanted = copy.deepcopy(self.asked())
        spoil(apart_chains(self.EDGES, self.SEERS, "d"))
        spoil(ground_by(self.EDGES, ["b"], self.NEEDS))
        self.assertEqual(self.asked(), wanted)


if __name__ == "__main__":
    unittest.main()
