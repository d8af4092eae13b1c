"""Going through a world's events: which tells are taken and which are live, and who holds what behind each."""

from quoteweave.holders import ground_alone


def going_order(events):
    return sorted(range(len(events)), key=lambda number: (events[number][1], number))


def gone(world):
    events = world[3]
    past = []
    taken = []
    wrong = {}
    held = []
    known = {}
    steps = []
    for number in going_order(events):
        believed = is_taken(world, events[number], wrong, held)
        past.append(number)
        if believed and events[number][0] == "tell":
            taken.append(number)
        wrong = wrong_among(world, past)
        live = live_among(events, taken, wrong)
        held = held_among(world, past, live, known)
        steps.append((number, believed, live, held))
    return steps


def wrong_pairs(world):
    wrong = wrong_among(world, going_order(world[3]))
    names = [person[0] for person in world[0]]
    pairs = []
    for name in names:
        pairs.extend([(name, other) for other in names if (name, other) in wrong])
    return pairs


def until_time(world, time):
    events = [event for event in world[3] if event[1] <= time]
    return (list(world[0]), list(world[1]), list(world[2]), events)


# The wrong and the held are those of the moment just ahead of the event.
def is_taken(world, event, wrong, held):
    if event[0] == "see":
        return True
    teller = event[2]
    hearer = event[3]
    matter = event[4]
    if (teller, matter) not in held or (teller, hearer) in wrong:
        return False
    return rank_of(world, teller) >= floor_of(world, hearer) and not has_against(world, held, hearer, matter)


def rank_of(world, name):
    return [person[1] for person in world[0] if person[0] == name][0]


def floor_of(world, name):
    return [person[2] for person in world[0] if person[0] == name][0]


# Whether among the pairs (person, matter) there is one of this person with a matter against this one.
def has_against(world, pairs, name, matter):
    rivals = [second for first, second in world[2] if first == matter]
    rivals.extend([first for first, second in world[2] if second == matter])
    return any([(name, rival) in pairs for rival in rivals])


# Who is found wrong by whom behind these events, as pairs (teller, hearer). A tell counts here even
# where it was not taken, and a see that comes behind it counts as well as one ahead of it.
def wrong_among(world, past):
    seen = seen_among(world[3], past)
    wrong = {}
    for number in past:
        event = world[3][number]
        if event[0] == "tell" and (event[3], event[4]) not in seen:
            if has_against(world, seen, event[3], event[4]):
                wrong[(event[2], event[3])] = True
    return wrong


def seen_among(events, past):
    seen = {}
    for number in past:
        if events[number][0] == "see":
            seen[(events[number][2], events[number][3])] = True
    return seen


def live_among(events, taken, wrong):
    return sorted([number for number in taken if (events[number][2], events[number][3]) not in wrong])


# Most events leave most matters as they were, so the holders of a web once known are not sought again.
def held_among(world, past, live, known):
    seen = seen_among(world[3], past)
    holders = {}
    for matter in world[1]:
        web = (seers_of(world, seen, matter), edges_of(world[3], live, matter))
        if web not in known:
            known[web] = holders_in(world, web)
        holders[matter] = known[web]
    held = []
    for person in world[0]:
        held.extend([(person[0], matter) for matter in world[1] if person[0] in holders[matter]])
    return held


def seers_of(world, seen, matter):
    return tuple([person[0] for person in world[0] if (person[0], matter) in seen])


def edges_of(events, live, matter):
    tells = [events[number] for number in live if events[number][4] == matter]
    return tuple([(event[2], event[3]) for event in tells])


def holders_in(world, web):
    return [name for name, chains in ground_alone(web[1], web[0], needs_of(world))]


def needs_of(world):
    return [(person[0], person[3]) for person in world[0]]
