"""A moment of a world: a pair of the world and of those of its steps, as `gone` tells them, that lie behind it.

The world until a time has just the first of the whole world's steps, so each moment is a part of one
going through, and an event has the same number in all of them.
"""

from quoteweave.going import edges_of, gone, seen_among, seers_of


def last_moment(world):
    return (world, gone(world))


def moment_at(moment, time):
    events = moment[0][3]
    return (moment[0], [step for step in moment[1] if events[step[0]][1] <= time])


# The moment just ahead of an event that is gone through.
def moment_ahead(moment, number):
    return (moment[0], moment[1][:past_in(moment).index(number)])


def past_in(moment):
    return [step[0] for step in moment[1]]


def live_in(moment):
    return moment[1][-1][2] if len(moment[1]) > 0 else []


def held_in(moment):
    return moment[1][-1][3] if len(moment[1]) > 0 else []


def seen_in(moment):
    return seen_among(moment[0][3], past_in(moment))


# A matter's web: those who have seen it, and the edges of its live tells.
def web_of(moment, matter):
    return (seers_of(moment[0], seen_in(moment), matter), edges_of(moment[0][3], live_in(moment), matter))


def web_without(web, person):
    return (web[0], [edge for edge in web[1] if edge[0] != person])
