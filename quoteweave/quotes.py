"""Whether the quote of a tell was true."""

from quoteweave.moments import last_moment, live_in, moment_ahead, seen_in


def said_truly(world, number):
    return said_truly_in(last_moment(world), number)


# The event is one that is gone through at the moment. A quote goes back from the teller, so each of
# its people is to have told the one named ahead of them.
def said_truly_in(moment, number):
    events = moment[0][3]
    event = events[number]
    if event[0] == "see":
        return False
    matter = event[4]
    ahead = moment_ahead(moment, number)
    told = [events[tell][2:5] for tell in live_in(ahead)]
    people = [event[2]] + list(event[6])
    links = [(teller, hearer, matter) for hearer, teller in zip(people, people[1:])]
    return (people[-1], matter) in seen_in(ahead) and all([link in told for link in links])
