"""What several tests need: chains listed one by one, and a second finding of holders and steps, word by word."""

import itertools


def all_chains(edges, starts, goal):
    """Each chain to the goal, listed by going along every edge."""
    listed = []
    waiting = [[name] for name in sorted(set(starts) - {goal})]
    while waiting:
        chain = waiting.pop()
        if (chain[-1], goal) in edges:
            listed.append(chain)
        behind = {second for first, second in edges if first == chain[-1]} - {goal} - set(chain)
        waiting.extend(chain + [name] for name in sorted(behind))
    return listed


def most_apart(chains):
    """How many of the listed chains can be apart, by trying each with and without."""
    if not chains:
        return 0
    first = set(chains[0])
    without = most_apart(chains[1:])
    apart = [chain for chain in chains[1:] if not first & set(chain)]
    if len(apart) + 1 <= without:
        return without
    return max(without, 1 + most_apart(apart))


def subsets(names):
    return [list(chosen) for many in range(len(names) + 1) for chosen in itertools.combinations(names, many)]


def shuffled_numbers(number):
    """Numbers that follow no plain pattern, the same in each run."""
    while True:
        number = number * 48271 % 2147483647
        yield number


def drawn(numbers, choices):
    return choices[next(numbers) % len(choices)]


def some_web(numbers, names, many):
    """Some edges between the names, doubled ones, loops and edges out of the goal among them."""
    return [(drawn(numbers, names), drawn(numbers, names)) for at in range(many)]


def chains_within(edges, seers, people, goal):
    """Each chain to the goal all of whose names are among these people."""
    return [chain for chain in all_chains(edges, seers, goal) if set(chain) <= set(people)]


def has_enough(edges, seers, people, name, need):
    chains = chains_within(edges, seers, people, name)
    return most_apart(sorted(chains, key=len)) >= need


def holders_due(edges, seers, needs):
    """The holders, found one by one."""
    found = set(seers)
    while True:
        more = {name for name, need in needs if name not in found and has_enough(edges, seers, found, name, need)}
        if not more:
            return found
        found |= more


def is_against(world, one, other):
    return (one, other) in world[2] or (other, one) in world[2]


def has_seen(world, past, name, matter):
    return any(world[3][at][0] == "see" and world[3][at][2:4] == (name, matter) for at in past)


def is_wrong(world, past, teller, hearer):
    """Whether the teller is found wrong by the hearer behind these events."""
    told = {world[3][at][4] for at in past if world[3][at][0] == "tell" and world[3][at][2:4] == (teller, hearer)}
    return any(not has_seen(world, past, hearer, matter) and has_seen(world, past, hearer, other)
               for matter in told for other in world[1] if is_against(world, matter, other))


def live_due(world, past, taken):
    return sorted(at for at in past if world[3][at][0] == "tell" and taken[at]
                  and not is_wrong(world, past, world[3][at][2], world[3][at][3]))


def held_due(world, past, taken):
    """The pairs held behind these events, in the order of the people and for each of the matters."""
    live = live_due(world, past, taken)
    needs = [(person[0], person[3]) for person in world[0]]
    holders = {}
    for matter in world[1]:
        seers = [name for name, need in needs if has_seen(world, past, name, matter)]
        holders[matter] = holders_due([world[3][at][2:4] for at in live if world[3][at][4] == matter], seers, needs)
    return [(name, matter) for name, need in needs for matter in world[1] if name in holders[matter]]


def reasons_against(world, past, taken, event):
    """For which of the four reasons a tell behind these events is not taken."""
    kind, time, teller, hearer, matter, word, by = event
    held = held_due(world, past, taken)
    ranks = {person[0]: person[1] for person in world[0]}
    floors = {person[0]: person[2] for person in world[0]}
    reasons = []
    if (teller, matter) not in held:
        reasons.append("teller")
    if ranks[teller] < floors[hearer]:
        reasons.append("rank")
    if any(name == hearer and is_against(world, matter, other) for name, other in held):
        reasons.append("against")
    if is_wrong(world, past, teller, hearer):
        reasons.append("wrong")
    return reasons


def steps_due(world):
    """What is to be told of going through the world."""
    steps = []
    past = []
    taken = {}
    for time, number in sorted((event[1], number) for number, event in enumerate(world[3])):
        event = world[3][number]
        taken[number] = event[0] == "see" or not reasons_against(world, past, taken, event)
        past.append(number)
        steps.append((number, taken[number], live_due(world, past, taken), held_due(world, past, taken)))
    return steps


def some_world(numbers, people, matters, against, many, times):
    """A world with so many events, one in four or somewhat more a see."""
    events = []
    while len(events) < many:
        time = drawn(numbers, times)
        one, other = drawn(numbers, people)[0], drawn(numbers, people)[0]
        matter = drawn(numbers, matters)
        if next(numbers) % 4 == 0:
            events.append(("see", time, one, matter, "seen"))
        elif one != other:
            events.append(("tell", time, one, other, matter, "told", ()))
    return (list(people), list(matters), list(against), events)


def lists_in(value):
    """Each list within a value, by itself."""
    if isinstance(value, (list, tuple)):
        within = [part for entry in value for part in lists_in(entry)]
        return ([value] if isinstance(value, list) else []) + within
    return []


def spoil(value):
    """Changes each list within a value."""
    for part in lists_in(value):
        part.reverse()
        part.append("spoilt")
