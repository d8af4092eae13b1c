import copy
import itertools
import unittest

from helping import all_chains, most_apart, shuffled_numbers, some_web, subsets
from quoteweave.chains import apart_chains, meets_all


class ChainsTest(unittest.TestCase):
    def told(self, edges, starts, goal):
        """What is told, its kinds and what was handed in looked at."""
        before = copy.deepcopy((edges, starts, goal))
        told = apart_chains(edges, starts, goal)
        self.assertEqual((edges, starts, goal), before)
        self.assertIs(type(told), tuple)
        self.assertEqual(len(told), 2)
        chains, cut = told
        self.assertIs(type(chains), list)
        self.assertIs(type(cut), list)
        for part in chains + [cut]:
            self.assertIs(type(part), list)
            self.assertEqual([type(name) for name in part], [str] * len(part))
        return told

    def assert_chains(self, edges, starts, goal, chains):
        """Each is a chain to the goal, they are apart and sorted."""
        web = (edges, starts, goal, chains)
        for chain in chains:
            self.assertGreater(len(chain), 0, web)
            self.assertNotIn(goal, chain, web)
            self.assertIn(chain[0], starts, web)
            for step in zip(chain, chain[1:] + [goal]):
                self.assertIn(step, edges, web)
        names = [name for chain in chains for name in chain]
        self.assertEqual(len(names), len(set(names)), web)
        self.assertEqual(chains, sorted(chains), web)

    def assert_cut(self, goal, cut, many, listed):
        """So many unlike names, sorted, without the goal, and each listed chain meets one."""
        self.assertEqual(cut, sorted(set(cut)))
        self.assertNotIn(goal, cut)
        self.assertEqual(len(cut), many)
        for chain in listed:
            self.assertTrue(set(chain) & set(cut), (chain, cut))

    def assert_web(self, edges, starts, goal):
        """All that is promised of the web, held against a listing of all chains."""
        listed = all_chains(edges, starts, goal)
        chains, cut = self.told(edges, starts, goal)
        self.assert_chains(edges, starts, goal, chains)
        self.assertEqual(len(chains), most_apart(sorted(listed, key=len)), (edges, starts, goal))
        self.assert_cut(goal, cut, len(chains), listed)
        self.assert_meets(edges, starts, goal, cut, True)
        return chains, cut

    def assert_number(self, edges, starts, goal, many):
        self.assertEqual(len(self.assert_web(edges, starts, goal)[0]), many, (edges, starts, goal))

    def assert_meets(self, edges, starts, goal, cut, meets):
        before = copy.deepcopy((edges, starts, goal, cut))
        self.assertIs(meets_all(edges, starts, goal, cut), meets, before)
        self.assertEqual((edges, starts, goal, cut), before)

    def assert_meets_as_listed(self, edges, starts, goal, cuts):
        listed = [set(chain) for chain in all_chains(edges, starts, goal)]
        for cut in cuts:
            self.assert_meets(edges, starts, goal, cut, all(chain & set(cut) for chain in listed))


class Plain(ChainsTest):
    def test_one_chain(self):
        self.assertEqual(apart_chains([("a", "b"), ("b", "g")], ["a"], "g")[0], [["a", "b"]])
        self.assert_number([("a", "b"), ("b", "g")], ["a"], "g", 1)

    def test_a_long_chain(self):
        names = list("abcdefghi")
        edges = list(zip(names, names[1:] + ["z"]))
        self.assertEqual(self.assert_web(edges, ["a"], "z")[0], [names])
        self.assertEqual(self.assert_web(edges[::-1], ["a"], "z")[0], [names])
        self.assertEqual(self.assert_web(edges, ["f"], "z")[0], [names[5:]])

    def test_nine_chains(self):
        names = list("ihgfedcba")
        edges = [(name, "z") for name in names]
        for many in range(0, 10):
            told = self.assert_web(edges, names[:many], "z")
            self.assertEqual(told, ([[name] for name in sorted(names[:many])], sorted(names[:many])))

    def test_four_chains_of_two(self):
        edges = [("a", "h"), ("b", "g"), ("c", "f"), ("d", "e"), ("h", "z"), ("g", "z"), ("f", "z"), ("e", "z")]
        chains, cut = self.assert_web(edges, ["d", "b", "c", "a"], "z")
        self.assertEqual(chains, [["a", "h"], ["b", "g"], ["c", "f"], ["d", "e"]])

    def test_one_name_that_all_chains_meet(self):
        edges = [("a", "m"), ("b", "m"), ("c", "m"), ("m", "x"), ("m", "y"), ("x", "g"), ("y", "g")]
        chains, cut = self.assert_web(edges, ["a", "b", "c"], "g")
        self.assertEqual(len(chains), 1)
        self.assertEqual(cut, ["m"])

    def test_one_start_is_in_one_chain_alone(self):
        edges = [("a", "x"), ("a", "y"), ("x", "g"), ("y", "g"), ("a", "g")]
        self.assertEqual(self.assert_web(edges, ["a"], "g")[1], ["a"])

    def test_names_of_the_text_s_forms(self):
        edges = [("ann", "bob"), ("bob", "cid"), ("abcdefgh", "cid"), ("ann", "abcdefgh")]
        self.assert_number(edges, ["ann"], "cid", 1)
        self.assert_number(edges, ["ann", "bob"], "cid", 2)
        self.assert_number(edges, ["ann", "bob", "abcdefgh"], "cid", 2)

    def test_names_that_the_program_may_use_itself(self):
        names = ["begin", "to", "from", "in", "out", "goal", "start"]
        for goal in names:
            edges = [pair for pair in itertools.permutations(names, 2)]
            others = [name for name in names if name != goal]
            self.assertEqual(apart_chains(edges, names, goal), ([[name] for name in sorted(others)], sorted(others)))


class Edges(ChainsTest):
    def test_nothing_at_all(self):
        self.assertEqual(self.assert_web([], [], "g"), ([], []))
        self.assert_meets([], [], "g", [], True)
        self.assert_meets([], [], "g", ["a", "g"], True)

    def test_no_start(self):
        edges = [("a", "b"), ("b", "g"), ("a", "g"), ("g", "a")]
        self.assertEqual(self.assert_web(edges, [], "g"), ([], []))
        self.assert_meets(edges, [], "g", [], True)

    def test_no_edge(self):
        for starts in (["a"], ["a", "b"], ["g"], ["a", "g"]):
            self.assertEqual(self.assert_web([], starts, "g"), ([], []))
            self.assert_meets([], starts, "g", [], True)

    def test_the_goal_as_a_start(self):
        edges = [("g", "a"), ("a", "g"), ("g", "g"), ("b", "g")]
        self.assertEqual(self.assert_web(edges, ["g"], "g"), ([], []))
        self.assertEqual(self.assert_web(edges, ["g", "b"], "g"), ([["b"]], ["b"]))
        self.assertEqual(self.assert_web(edges, ["a", "g"], "g"), ([["a"]], ["a"]))
        self.assert_meets(edges, ["g"], "g", [], True)
        self.assert_meets(edges, ["g", "g"], "g", ["g"], True)
        self.assert_meets(edges, ["g", "b"], "g", [], False)

    def test_a_start_twice(self):
        edges = [("a", "g"), ("a", "b"), ("b", "g")]
        for starts in (["a", "a"], ["a"] * 5):
            self.assert_number(edges, starts, "g", 1)
        for starts in (["a", "b", "a"], ["b", "b", "a", "a"], ["b", "g", "a", "g", "b"]):
            self.assertEqual(self.assert_web(edges, starts, "g"), ([["a"], ["b"]], ["a", "b"]))
        self.assert_meets(edges, ["a", "a"], "g", ["a"], True)
        self.assert_meets(edges, ["a", "b", "a"], "g", ["a"], False)

    def test_an_edge_from_a_name_to_itself(self):
        edges = [("a", "a"), ("a", "b"), ("b", "b"), ("b", "g"), ("g", "g")]
        self.assertEqual(self.assert_web(edges, ["a"], "g")[0], [["a", "b"]])
        self.assert_number([("a", "a")], ["a"], "g", 0)
        self.assert_number([("a", "a")], ["a"], "a", 0)
        self.assert_meets([("a", "a")], ["a"], "a", [], True)

    def test_loops(self):
        loop = [("a", "b"), ("b", "c"), ("c", "a")]
        self.assert_number(loop, ["a", "b", "c"], "g", 0)
        self.assert_meets(loop, ["a", "b", "c"], "g", [], True)
        self.assert_number(loop + [("c", "g")], ["a"], "g", 1)
        self.assert_number(loop + [("c", "g")], ["a", "b"], "g", 1)
        self.assert_number(loop + [("c", "g"), ("b", "g")], ["a", "b", "c"], "g", 2)
        both_ways = [("a", "b"), ("b", "a"), ("b", "c"), ("c", "b")]
        self.assert_number(both_ways + [("c", "g"), ("a", "g")], ["b"], "g", 1)
        self.assert_number(both_ways + [("c", "g"), ("a", "g")], ["b", "c"], "g", 2)

    def test_doubled_edges(self):
        edges = [("a", "b"), ("b", "g"), ("c", "b"), ("a", "g")]
        for many in (1, 2, 5):
            for web in (edges * many, sorted(edges * many), edges + [("b", "g")] * many):
                self.assert_number(web, ["a"], "g", 1)
                self.assert_number(web, ["a", "c"], "g", 2)
        self.assert_number([("a", "g")] * 200, ["a"], "g", 1)

    def test_edges_out_of_the_goal(self):
        edges = [("a", "g"), ("g", "b"), ("b", "g"), ("g", "a"), ("g", "g")]
        self.assert_number(edges, ["a"], "g", 1)
        self.assertEqual(self.assert_web([("a", "g"), ("g", "b")], ["a"], "b")[0], [["a", "g"]])
        through_goal = [("a", "g"), ("g", "b"), ("b", "c"), ("c", "g")]
        self.assert_number(through_goal, ["a"], "g", 1)
        self.assert_meets(through_goal, ["a"], "g", ["a"], True)
        self.assert_meets(through_goal, ["a"], "g", ["b"], False)
        self.assert_meets(through_goal, ["a"], "g", ["c", "b"], False)

    def test_names_that_no_edge_leads_to(self):
        edges = [("a", "b"), ("b", "c"), ("d", "g"), ("e", "d")]
        self.assertEqual(self.assert_web(edges, ["a"], "g"), ([], []))
        self.assert_meets(edges, ["a"], "g", [], True)
        self.assertEqual(self.assert_web(edges, ["a", "d"], "g"), ([["d"]], ["d"]))
        self.assert_number(edges, ["a", "e", "d"], "g", 1)
        self.assertEqual(self.assert_web([("a", "b")], ["a", "b", "x", "y"], "g"), ([], []))

    def test_a_name_that_leads_nowhere(self):
        edges = [("a", "b"), ("a", "c"), ("b", "c"), ("a", "g")]
        self.assertEqual(self.assert_web(edges, ["a"], "g"), ([["a"]], ["a"]))
        self.assertEqual(self.assert_web(edges, ["a", "b", "c"], "g"), ([["a"]], ["a"]))

    def test_an_edge_straight_from_a_start_to_the_goal(self):
        self.assertEqual(self.assert_web([("a", "g")], ["a"], "g"), ([["a"]], ["a"]))
        edges = [("a", "g"), ("a", "b"), ("b", "g")]
        self.assertEqual(self.assert_web(edges, ["a", "b"], "g"), ([["a"], ["b"]], ["a", "b"]))
        self.assert_meets(edges, ["a", "b"], "g", ["a"], False)
        self.assert_meets(edges, ["a", "b"], "g", ["b"], False)
        self.assert_meets(edges, ["a", "b"], "g", ["b", "a"], True)

    def test_an_edge_has_one_way(self):
        self.assert_number([("g", "a")], ["a"], "g", 0)
        self.assert_number([("b", "a"), ("b", "g")], ["a"], "g", 0)
        self.assert_meets([("b", "a"), ("b", "g")], ["a"], "g", [], True)

    def test_the_goal_may_be_any_name(self):
        edges = list(itertools.permutations("abcd", 2))
        for goal in "abcd":
            self.assert_number(edges, list("abcd"), goal, 3)
        self.assert_number(edges, list("abcd"), "x", 0)


class GivenUp(ChainsTest):
    """Webs in which some chain stands in the way of the most: whichever is found first, it may have to go."""

    def in_all_orders(self, edges, starts, goal, many):
        for turn in range(len(edges)):
            for web in (edges[turn:] + edges[:turn], edges[turn::-1] + edges[:turn:-1]):
                for order in itertools.permutations(starts):
                    self.assert_number(web, list(order), goal, many)

    def test_one_that_crosses_over(self):
        edges = [("a", "p"), ("p", "g"), ("b", "q"), ("q", "g"), ("a", "q"), ("b", "p")]
        self.in_all_orders(edges, ["a", "b"], "g", 2)
        self.in_all_orders(edges[:5], ["a", "b"], "g", 2)

    def test_a_short_one_across_two_long_ones(self):
        edges = [("a", "b"), ("b", "c"), ("c", "g"), ("p", "q"), ("q", "r"), ("r", "g"), ("a", "r")]
        self.in_all_orders(edges, ["a", "p"], "g", 2)
        edges = [("a", "b"), ("b", "c"), ("c", "d"), ("d", "g"), ("p", "q"), ("q", "r"), ("r", "s"), ("s", "g"),
                 ("a", "s")]
        self.in_all_orders(edges, ["a", "p"], "g", 2)

    def test_a_start_within_another_s_chain(self):
        edges = [("a", "b"), ("b", "g"), ("a", "c"), ("c", "d"), ("d", "g")]
        self.in_all_orders(edges, ["a", "b"], "g", 2)
        edges = [("a", "b"), ("b", "c"), ("c", "g"), ("a", "d"), ("d", "e"), ("e", "f"), ("f", "g")]
        self.in_all_orders(edges, ["a", "b"], "g", 2)
        self.in_all_orders(edges, ["a", "c"], "g", 2)
        self.in_all_orders(edges, ["a", "b", "c"], "g", 2)

    def test_two_that_are_given_up_at_once(self):
        edges = [("a", "p"), ("p", "g"), ("b", "p"), ("b", "q"), ("q", "g"), ("c", "q"), ("c", "r"), ("r", "g")]
        self.in_all_orders(edges, ["a", "b", "c"], "g", 3)
        edges = [("a", "p"), ("b", "p"), ("b", "q"), ("c", "q"), ("c", "r"), ("d", "r"), ("d", "s"),
                 ("p", "g"), ("q", "g"), ("r", "g"), ("s", "g")]
        self.in_all_orders(edges, ["a", "b", "c", "d"], "g", 4)

    def test_a_stretch_that_is_taken_back(self):
        edges = [("a", "x"), ("x", "y"), ("y", "z"), ("z", "g"), ("b", "z"), ("x", "w"), ("w", "g")]
        self.in_all_orders(edges, ["a", "b"], "g", 2)
        edges = [("a", "x"), ("x", "y"), ("y", "g"), ("a", "r"), ("r", "s"), ("s", "t"), ("t", "g"),
                 ("b", "u"), ("u", "v"), ("v", "y")]
        self.in_all_orders(edges, ["a", "b"], "g", 2)

    def test_a_name_that_is_left_out_altogether(self):
        edges = [("a", "m"), ("m", "d"), ("d", "g"), ("a", "c"), ("c", "e"), ("e", "g"), ("b", "h"), ("h", "d"),
                 ("m", "e")]
        self.in_all_orders(edges, ["a", "b"], "g", 2)


class Listed(ChainsTest):
    """Small webs held against a listing of all chains."""

    def test_all_webs_of_three_names_and_the_goal(self):
        pairs = [pair for pair in itertools.product("abc", "abcg") if pair[0] != pair[1]]
        for edges in subsets(pairs):
            for starts in (["a"], ["b", "a"], ["a", "b", "c"]):
                self.assert_web(edges, starts, "g")

    def test_all_webs_of_two_names_and_the_goal_with_all_pairs(self):
        pairs = list(itertools.product("abg", repeat=2))
        for edges in subsets(pairs):
            for starts in subsets("abg"):
                self.assert_web(edges, starts, "g")
                self.assert_meets_as_listed(edges, starts, "g", subsets("abgx"))

    def test_each_set_of_names_as_a_cut_of_three_names(self):
        pairs = [pair for pair in itertools.product("abc", "abcg") if pair[0] != pair[1]]
        for edges in subsets(pairs):
            self.assert_meets_as_listed(edges, ["a", "b"], "g", subsets("abcgx"))

    def test_some_webs_of_four_names_and_the_goal(self):
        pairs = list(itertools.product("abcdg", repeat=2))
        for mask in range(0, 2 ** 25, 20011):
            edges = [pair for at, pair in enumerate(pairs) if mask >> at & 1]
            starts = [name for at, name in enumerate("gabcd") if mask >> (at * 5) & 1]
            self.assert_web(edges, starts, "g")

    def test_each_set_of_names_as_a_cut_of_four_names(self):
        pairs = list(itertools.product("abcdg", repeat=2))
        for mask in range(0, 2 ** 25, 100003):
            edges = [pair for at, pair in enumerate(pairs) if mask >> at & 1]
            starts = [name for at, name in enumerate("abcdg") if mask >> (at * 5) & 1]
            self.assert_meets_as_listed(edges, starts, "g", subsets("abcdgx"))

    def test_some_webs_of_five_to_ten_names(self):
        numbers = shuffled_numbers(7)
        for many in range(5, 11):
            names = list("abcdefghij")[:many]
            for turn in range(120):
                edges = some_web(numbers, names, next(numbers) % (many + 9))
                starts = [names[next(numbers) % many] for at in range(next(numbers) % (many // 2 + 1))]
                goal = names[next(numbers) % many]
                chains, cut = self.assert_web(edges, starts, goal)
                cuts = [[name for name in names + ["x"] if next(numbers) % 3 == 0] for at in range(6)]
                cuts += [cut[1:], cut[:-1], cut + [goal], cut[::-1] * 2, [goal], ["x"], names]
                self.assert_meets_as_listed(edges, starts, goal, cuts)

    def test_a_cut_with_one_name_fewer_meets_not_all(self):
        numbers = shuffled_numbers(11)
        names = list("abcdefghij")
        for turn in range(150):
            edges = some_web(numbers, names, 30)
            starts = names[:3]
            chains, cut = self.told(edges, starts, "j")
            self.assert_chains(edges, starts, "j", chains)
            self.assert_cut("j", cut, len(chains), [])
            self.assert_meets(edges, starts, "j", cut, True)
            for fewer in itertools.combinations(names[:-1], max(len(cut) - 1, 0)):
                self.assert_meets(edges, starts, "j", list(fewer), len(cut) == 0)


class Most(ChainsTest):
    def test_ten_names_and_two_hundred_edges(self):
        names = list("abcdefghij")
        edges = list(itertools.product(names, repeat=2)) * 2
        self.assertEqual(len(edges), 200)
        for goal in names:
            others = [name for name in names if name != goal]
            self.assertEqual(self.told(edges, names, goal), ([[name] for name in others], others))
            self.assert_meets(edges, names, goal, others, True)
            for at in range(len(others)):
                self.assert_meets(edges, names, goal, others[:at] + others[at + 1:], False)

    def test_somewhat_more(self):
        names = [first + second for first in "abcd" for second in "abcd"]
        edges = [pair for pair in itertools.product(names, repeat=2)]
        chains, cut = self.told(edges, names[:8], "dd")
        self.assert_chains(edges, names[:8], "dd", chains)
        self.assertEqual((len(chains), cut), (8, names[:8]))
        row = list(zip(names, names[1:]))
        self.assertEqual(self.told(row, names[:1], "dd")[0], [names[:-1]])


class Meets(ChainsTest):
    EDGES = [("a", "b"), ("b", "g"), ("c", "d"), ("d", "g"), ("a", "d")]

    def test_ordinary_cuts(self):
        for cut, meets in ((["b", "d"], True), (["a", "c"], True), (["a", "d"], True), (["b", "c"], False),
                           (["a", "b"], False), (["c", "d"], False), (["d"], False), ([], False)):
            self.assert_meets(self.EDGES, ["a", "c"], "g", cut, meets)

    def test_the_goal_meets_nothing(self):
        self.assert_meets(self.EDGES, ["a", "c"], "g", ["g"], False)
        self.assert_meets(self.EDGES, ["a", "c"], "g", ["g", "b"], False)
        self.assert_meets(self.EDGES, ["a", "c"], "g", ["b", "g", "d"], True)
        self.assert_meets([("a", "g")], ["a"], "g", ["g", "x", "g"], False)

    def test_a_strange_name_meets_nothing(self):
        self.assert_meets(self.EDGES, ["a", "c"], "g", ["x", "y"], False)
        self.assert_meets(self.EDGES, ["a", "c"], "g", ["x", "d", "y", "b"], True)

    def test_a_name_twice_and_unsorted(self):
        self.assert_meets(self.EDGES, ["a", "c"], "g", ["d", "b", "d", "b"], True)
        self.assert_meets(self.EDGES, ["a", "c"], "g", ["d", "d"], False)

    def test_each_set_of_names(self):
        for starts in subsets("abcdg"):
            self.assert_meets_as_listed(self.EDGES, starts, "g", subsets("abcdgx"))


class Own(ChainsTest):
    EDGES = [("a", "p"), ("p", "g"), ("b", "q"), ("q", "g"), ("a", "q"), ("c", "g")]
    STARTS = ["c", "b", "a", "a"]

    def test_no_two_lists_are_one(self):
        webs = [(self.EDGES, self.STARTS, "g"), ([("a", "g")], ["a"], "g"), ([("a", "g")], [], "g"), ([], [], "g"),
                ([("a", "g"), ("b", "g")], ["a", "b"], "g")]
        lists = []
        for edges, starts, goal in webs * 2:
            chains, cut = apart_chains(edges, starts, goal)
            lists += [chains, cut] + chains
        lists += [self.EDGES, self.STARTS] + [part for web in webs[1:] for part in web[:2]]
        for one, other in itertools.combinations(lists, 2):
            self.assertIsNot(one, other)

    def test_told_lists_that_are_changed(self):
        before = (list(self.EDGES), list(self.STARTS))
        kept = apart_chains(self.EDGES, self.STARTS, "g")
        wanted = copy.deepcopy(kept)
        self.assertEqual(len(wanted[0]), 3)
        told = apart_chains(self.EDGES, self.STARTS, "g")
        for chain in told[0]:
            chain.append("other")
            chain.reverse()
        told[0].append(["other"])
        told[1].append("other")
        self.assertEqual(kept, wanted)
        self.assertEqual(apart_chains(self.EDGES, self.STARTS, "g"), wanted)
        told[0].clear()
        told[1].clear()
        self.assertEqual(kept, wanted)
        self.assertEqual(apart_chains(self.EDGES, self.STARTS, "g"), wanted)
        self.assertEqual((self.EDGES, self.STARTS), before)

    def test_handed_in_lists_that_are_changed_behind_the_answer(self):
        edges, starts = list(self.EDGES), list(self.STARTS)
        told = apart_chains(edges, starts, "g")
        wanted = copy.deepcopy(told)
        edges.clear()
        starts.append("x")
        self.assertEqual(told, wanted)

    def test_the_same_is_answered_the_same_whatever_was_asked_between(self):
        first = apart_chains(self.EDGES, self.STARTS, "g")
        for turn in range(3):
            self.assertEqual(apart_chains(self.EDGES, self.STARTS, "g"), first)
            self.assertEqual(apart_chains(self.EDGES, [], "g"), ([], []))
            self.assertEqual(apart_chains([("a", "g")], ["a"], "g"), ([["a"]], ["a"]))
            self.assertIs(meets_all(self.EDGES, self.STARTS, "g", first[1]), True)
            self.assertIs(meets_all(self.EDGES, self.STARTS, "g", []), False)


if __name__ == "__main__":
    unittest.main()
