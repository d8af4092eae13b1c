"""Papers on who holds what: grounds, apart chains, tellers, times and wordings.

Each is told of the moment behind all events of a world by a function `.._of`, of any other moment
by one `.._in`.
"""

from quoteweave.going import holders_in, needs_of
from quoteweave.holders import ground_by, told_through
from quoteweave.moments import last_moment, live_in, past_in, web_of, web_without


def ground_of(world, matter):
    return ground_in(last_moment(world), matter)


def apart_of(world, person, matter):
    return apart_in(last_moment(world), person, matter)


def tellers_of(world, person, matter):
    return tellers_in(last_moment(world), person, matter)


def since_of(world, person, matter):
    return since_in(last_moment(world), person, matter)


def wordings_of(world, person, matter):
    return wordings_in(last_moment(world), person, matter)


def ground_in(moment, matter):
    web = web_of(moment, matter)
    return ground_by(web[1], web[0], needs_of(moment[0]))


# Whoever holds it by the person's own telling alone is nobody through whom it comes to them, so the
# holders are sought without the person's tells.
def apart_in(moment, person, matter):
    web = web_without(web_of(moment, matter), person)
    return told_through(web[1], web[0], holders_in(moment[0], web), person)


def tellers_in(moment, person, matter):
    events = moment[0][3]
    return [number for number in live_in(moment) if events[number][3:5] == (person, matter)]


def since_in(moment, person, matter):
    since = None
    for number, taken, live, held in moment[1]:
        if (person, matter) not in held:
            since = None
        elif since is None:
            since = moment[0][3][number][1]
    return since


def wordings_in(moment, person, matter):
    events = moment[0][3]
    tells = tellers_in(moment, person, matter)
    wordings = []
    for number in past_in(moment):
        event = events[number]
        if number in tells:
            wordings.append((number, event[5]))
        elif event[0] == "see" and event[2:4] == (person, matter):
            wordings.append((number, event[4]))
    return wordings
