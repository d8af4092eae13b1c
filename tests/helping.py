"""What several tests need: chains listed one by one, a second finding of holders and steps, word by word, and
the walking of grounds, chains and cuts."""

import copy
import itertools
import unittest

PEOPLE = [("bob", 4, 4, 1), ("ann", 4, 4, 1), ("eve", 4, 4, 1), ("cid", 4, 4, 1), ("dan", 4, 4, 1)]
NAMES = ["bob", "ann", "eve", "cid", "dan"]
MATTERS = ["sun", "rain", "wind", "calm"]
AGAINST = [("rain", "sun"), ("calm", "wind")]


def world_of(events, people=PEOPLE, against=AGAINST):
    return (list(people), list(MATTERS), list(against), list(events))


def people_with(*changed):
    """The people, some of them with other numbers."""
    names = {person[0]: person for person in changed}
    return [names.get(person[0], person) for person in PEOPLE]


def see(time, name, matter, word="seen"):
    return ("see", time, name, matter, word)


def tell(time, teller, hearer, matter, by=(), word="told"):
    return ("tell", time, teller, hearer, matter, word, by)


def all_chains(edges, starts, goal):
    """Each chain to the goal, listed by going along every edge."""
    listed = []
    waiting = [[name] for name in sorted(set(starts) - {goal})]
    while waiting:
        chain = waiting.pop()
        if (chain[-1], goal) in edges:
            listed.append(chain)
        behind = {second for first, second in edges if first == chain[-1]} - {goal} - set(chain)
        waiting.extend(chain + [name] for name in sorted(behind))
    return listed


def most_apart(chains):
    """How many of the listed chains can be apart, by trying each with and without."""
    if not chains:
        return 0
    first = set(chains[0])
    without = most_apart(chains[1:])
    apart = [chain for chain in chains[1:] if not first & set(chain)]
    if len(apart) + 1 <= without:
        return without
    return max(without, 1 + most_apart(apart))


def subsets(names):
    return [list(chosen) for many in range(len(names) + 1) for chosen in itertools.combinations(names, many)]


def shuffled_numbers(number):
    """Numbers that follow no plain pattern, the same in each run."""
    while True:
        number = number * 48271 % 2147483647
        yield number


def drawn(numbers, choices):
    return choices[next(numbers) % len(choices)]


def some_web(numbers, names, many):
    """Some edges between the names, doubled ones, loops and edges out of the goal among them."""
    return [(drawn(numbers, names), drawn(numbers, names)) for at in range(many)]


def chains_within(edges, seers, people, goal):
    """Each chain to the goal all of whose names are among these people."""
    return [chain for chain in all_chains(edges, seers, goal) if set(chain) <= set(people)]


def has_enough(edges, seers, people, name, need):
    chains = chains_within(edges, seers, people, name)
    return most_apart(sorted(chains, key=len)) >= need


def holders_due(edges, seers, needs):
    """The holders, found one by one."""
    found = set(seers)
    while True:
        more = {name for name, need in needs if name not in found and has_enough(edges, seers, found, name, need)}
        if not more:
            return found
        found |= more


def is_against(world, one, other):
    return (one, other) in world[2] or (other, one) in world[2]


def has_seen(world, past, name, matter):
    return any(world[3][at][0] == "see" and world[3][at][2:4] == (name, matter) for at in past)


def is_wrong(world, past, teller, hearer):
    """Whether the teller is found wrong by the hearer behind these events."""
    told = {world[3][at][4] for at in past if world[3][at][0] == "tell" and world[3][at][2:4] == (teller, hearer)}
    return any(not has_seen(world, past, hearer, matter) and has_seen(world, past, hearer, other)
               for matter in told for other in world[1] if is_against(world, matter, other))


def live_due(world, past, taken):
    return sorted(at for at in past if world[3][at][0] == "tell" and taken[at]
                  and not is_wrong(world, past, world[3][at][2], world[3][at][3]))


def needs_due(world):
    return [(person[0], person[3]) for person in world[0]]


def web_due(world, past, taken, matter, struck=None):
    """The edges of the matter's live tells, but those by somebody struck out, and who has seen it."""
    edges = [world[3][at][2:4] for at in live_due(world, past, taken)
             if world[3][at][4] == matter and world[3][at][2] != struck]
    return edges, [person[0] for person in world[0] if has_seen(world, past, person[0], matter)]


def held_due(world, past, taken, struck=None):
    """The pairs held behind these events, in the order of the people and for each of the matters."""
    needs = needs_due(world)
    holders = {matter: holders_due(*web_due(world, past, taken, matter, struck), needs) for matter in world[1]}
    return [(name, matter) for name, need in needs for matter in world[1] if name in holders[matter]]


def reasons_against(world, past, taken, event):
    """For which of the four reasons a tell behind these events is not taken."""
    kind, time, teller, hearer, matter, word, by = event
    held = held_due(world, past, taken)
    ranks = {person[0]: person[1] for person in world[0]}
    floors = {person[0]: person[2] for person in world[0]}
    reasons = []
    if (teller, matter) not in held:
        reasons.append("teller")
    if ranks[teller] < floors[hearer]:
        reasons.append("rank")
    if any(name == hearer and is_against(world, matter, other) for name, other in held):
        reasons.append("against")
    if is_wrong(world, past, teller, hearer):
        reasons.append("wrong")
    return reasons


def steps_due(world):
    """What is to be told of going through the world."""
    steps = []
    past = []
    taken = {}
    for time, number in sorted((event[1], number) for number, event in enumerate(world[3])):
        event = world[3][number]
        taken[number] = event[0] == "see" or not reasons_against(world, past, taken, event)
        past.append(number)
        steps.append((number, taken[number], live_due(world, past, taken), held_due(world, past, taken)))
    return steps


def end_due(world):
    """The order of going through a world and which events are taken."""
    steps = steps_due(world)
    return [step[0] for step in steps], {step[0]: step[1] for step in steps}


def some_world(numbers, people, matters, against, many, times):
    """A world with so many events, one in four or somewhat more a see."""
    events = []
    while len(events) < many:
        time = drawn(numbers, times)
        one, other = drawn(numbers, people)[0], drawn(numbers, people)[0]
        matter = drawn(numbers, matters)
        if next(numbers) % 4 == 0:
            events.append(("see", time, one, matter, "seen"))
        elif one != other:
            events.append(("tell", time, one, other, matter, "told", ()))
    return (list(people), list(matters), list(against), events)


def lists_in(value):
    """Each list within a value, by itself."""
    if isinstance(value, (list, tuple)):
        within = [part for entry in value for part in lists_in(entry)]
        return ([value] if isinstance(value, list) else []) + within
    return []


def spoil(value):
    """Changes each list within a value."""
    for part in lists_in(value):
        part.reverse()
        part.append("spoilt")


class WalkTest(unittest.TestCase):
    """Walks what is told of grounds and cuts, whichever of several it is."""

    def assert_told_kinds(self, told):
        """A pair of a ground and of cuts."""
        self.assertIs(type(told), tuple)
        self.assertEqual([type(part) for part in told], [list, list])
        for pair in told[0] + told[1]:
            self.assertIs(type(pair), tuple)
            self.assertEqual([type(part) for part in pair], [str, list])
        for name, chains in told[0]:
            self.assertEqual([type(chain) for chain in chains], [list] * len(chains))

    def assert_ground(self, edges, seers, needs, ground):
        """Walked from its first to its last: each one stands by seeing or by chains of those ahead."""
        numbers = dict(needs)
        ahead = []
        for name, chains in ground:
            self.assertNotIn(name, ahead)
            self.assertIn(name, numbers)
            self.assertEqual(len(chains), 0 if name in seers else numbers[name], (name, chains))
            self.assert_apart(edges, seers, name, chains)
            for chain in chains:
                self.assertLessEqual(set(chain), set(ahead), ground)
            ahead.append(name)

    def assert_apart(self, edges, seers, goal, chains):
        names = [name for chain in chains for name in chain]
        self.assertEqual(len(names), len(set(names)), chains)
        self.assertNotIn(goal, names)
        for chain in chains:
            self.assertGreater(len(chain), 0)
            self.assertIn(chain[0], seers)
            for step in zip(chain, chain[1:] + [goal]):
                self.assertIn(step, edges)

    def assert_cuts(self, edges, seers, needs, holders, cuts):
        others = [(name, number) for name, number in needs if name not in holders]
        self.assertEqual([name for name, cut in cuts], [name for name, number in others])
        people = {name for name, number in needs}
        for (name, number), (told_name, cut) in zip(others, cuts):
            self.assertEqual(cut, sorted(set(cut)))
            self.assertLessEqual(set(cut), people - {name})
            self.assertLess(len(cut), number, (name, cut))
            for chain in chains_within(edges, seers, holders, name):
                self.assertTrue(set(chain) & set(cut), (name, chain, cut))

    def assert_holders(self, edges, seers, needs, told, holders=None):
        """All that is promised of a ground and its cuts; the holders are told by hand or found a second time."""
        if holders is None:
            holders = holders_due(edges, seers, needs)
        self.assert_told_kinds(told)
        self.assertEqual(sorted(name for name, chains in told[0]), sorted(holders), (edges, seers, needs))
        self.assert_ground(edges, seers, needs, told[0])
        self.assert_cuts(edges, seers, needs, holders, told[1])


class OwnChecks:
    """Tests beside a TestCase with EVENTS, `asked(world)`, a list of what is told of a world, and MANY, how many
    lists there are at least in it: what is told is the asker's own."""

    def test_no_two_lists_are_one(self):
        world = world_of(self.EVENTS)
        told = [self.asked(world), self.asked(world), self.asked(world_of([]))]
        lists = lists_in(told) + list(world)
        self.assertEqual(len({id(part) for part in lists}), len(lists))
        self.assertGreater(len(lists), self.MANY)

    def test_told_lists_that_are_changed(self):
        world = world_of(self.EVENTS)
        before = copy.deepcopy(world)
        kept = self.asked(world)
        wanted = copy.deepcopy(kept)
        for turn in range(3):
            told = self.asked(world)
            self.assertEqual(told, wanted)
            spoil(told)
            self.assertNotEqual(told, wanted)
            self.assertEqual(kept, wanted)
            self.assertEqual(world, before)
        self.assertEqual(self.asked(world), wanted)

    def test_handed_in_lists_that_are_changed_behind_the_answer(self):
        world = world_of(self.EVENTS)
        told = self.asked(world)
        wanted = copy.deepcopy(told)
        for part in world:
            part.clear()
        self.assertEqual(told, wanted)

    def test_worlds_asked_by_turns(self):
        worlds = [world_of(self.EVENTS[:many]) for many in range(len(self.EVENTS) + 1)]
        worlds += [world_of(self.EVENTS, against=[]), world_of(self.EVENTS, people_with(("bob", 4, 4, 2)))]
        wanted = [copy.deepcopy(self.asked(world)) for world in worlds]
        for turn in range(2):
            self.assertEqual([self.asked(world) for world in worlds[::-1]], wanted[::-1])
