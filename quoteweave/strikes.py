"""What falls when somebody's tells are struck out, and on whom a thing held leans.

Each is told of the moment behind all events of a world; the functions `.._in` tell it of any moment.
"""

from quoteweave.going import holders_in, needs_of
from quoteweave.holders import ground_by
from quoteweave.moments import held_in, last_moment, web_of, web_without
from quoteweave.papers import tellers_in


def struck(world, person):
    moment = last_moment(world)
    return (fallen_in(moment, person), [left_in(moment, person, matter) for matter in world[1]])


def leans_of(world, person, matter):
    return leans_in(last_moment(world), person, matter)


def hidden_of(world, person, matter):
    return hidden_in(last_moment(world), person, matter)


def fallen_in(moment, person):
    holders = {}
    for matter in moment[0][1]:
        holders[matter] = holders_without(moment, person, matter)
    return [pair for pair in held_in(moment) if pair[0] not in holders[pair[1]]]


def left_in(moment, person, matter):
    web = web_without(web_of(moment, matter), person)
    return (matter,) + ground_by(web[1], web[0], needs_of(moment[0]))


def leans_in(moment, person, matter):
    if (person, matter) not in held_in(moment):
        return []
    names = [name for name, need in needs_of(moment[0])]
    return [name for name in names if person not in holders_without(moment, name, matter)]


def hidden_in(moment, person, matter):
    tellers = [moment[0][3][number][2] for number in tellers_in(moment, person, matter)]
    return [name for name in leans_in(moment, person, matter) if name not in tellers]


def holders_without(moment, person, matter):
    return holders_in(moment[0], web_without(web_of(moment, matter), person))
