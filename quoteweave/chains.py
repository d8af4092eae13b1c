"""Chains to a goal: as many apart ones as there can be, and a cut that shows that there are no more.

Each name is two points, one where it is come to and one where it is left, with a way between
that has room for one chain. Chains are laid one by one; laying one may take back a part of
those laid before. Where no more can be laid, the names that can be come to but not be left
are a cut.
"""

BEGIN = ("", "begin")
# A name has room for one chain, so a way between names with room for two is never full:
# what stops the last search is full names alone.
WIDE = 2


def apart_chains(edges, starts, goal):
    rooms = rooms_of(edges, starts, goal)
    came_from = points_reached(rooms)
    while (goal, "to") in came_from:
        lay_chain(rooms, came_from, (goal, "to"))
        came_from = points_reached(rooms)
    firsts = [point[0] for point in rooms[BEGIN] if rooms[point][BEGIN] > 0]
    chains = [chain_from(rooms, first, goal) for first in firsts]
    return (sorted(chains), full_names(came_from))


def meets_all(edges, starts, goal, cut):
    edges_left = [edge for edge in edges if edge[0] not in cut]
    starts_left = [name for name in starts if name not in cut]
    return (goal, "to") not in points_reached(rooms_of(edges_left, starts_left, goal))


# A chain has no name twice and never the goal, so an edge from a name to itself or out of
# the goal is in none, and the goal begins none.
def rooms_of(edges, starts, goal):
    rooms = {BEGIN: {}}
    for name in starts:
        if name != goal:
            add_name(rooms, name)
            add_way(rooms, BEGIN, (name, "to"), WIDE)
    for first, second in edges:
        if first != goal and first != second:
            add_name(rooms, first)
            add_name(rooms, second)
            add_way(rooms, (first, "from"), (second, "to"), WIDE)
    return rooms


def add_name(rooms, name):
    add_way(rooms, (name, "to"), (name, "from"), 1)


# The room of the way back is how many chains are laid along a way, and so can be taken back.
def add_way(rooms, here, there, room):
    rooms.setdefault(here, {})
    rooms.setdefault(there, {})
    rooms[here][there] = room
    rooms[there][here] = 0


def points_reached(rooms):
    came_from = {BEGIN: None}
    waiting = [BEGIN]
    while len(waiting) > 0:
        here = waiting.pop(0)
        for there, room in rooms[here].items():
            if room > 0 and there not in came_from:
                came_from[there] = here
                waiting.append(there)
    return came_from


def lay_chain(rooms, came_from, last):
    there = last
    while there != BEGIN:
        here = came_from[there]
        rooms[here][there] = rooms[here][there] - 1
        rooms[there][here] = rooms[there][here] + 1
        there = here


def chain_from(rooms, first, goal):
    chain = []
    name = first
    while name != goal:
        chain.append(name)
        name = name_behind(rooms, name)
    return chain


def name_behind(rooms, name):
    here = (name, "from")
    return [there[0] for there in rooms[here] if there[0] != name and rooms[there][here] > 0][0]


def full_names(came_from):
    return sorted([point[0] for point in came_from if point[1] == "to" and (point[0], "from") not in came_from])
