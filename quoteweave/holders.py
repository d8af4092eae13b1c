"""Who holds one thing: those who saw it, and whoever has enough apart chains of holders from them."""

from quoteweave.chains import apart_chains


def ground_by(edges, seers, needs):
    ground = ground_alone(edges, seers, needs)
    holders = [name for name, chains in ground]
    others = [name for name, number in needs if name not in holders]
    return (ground, [(name, told_through(edges, seers, holders, name)[1]) for name in others])


# The ground without the cuts, for those who ask only who holds.
def ground_alone(edges, seers, needs):
    ground = [(name, []) for name, number in needs if name in seers]
    found = [name for name, chains in ground]
    # Somebody found late may be what another one, passed over before, still wanted.
    grown = True
    while grown:
        grown = False
        for name, number in needs:
            if name not in found:
                chains = told_through(edges, seers, found, name)[0]
                if len(chains) >= number:
                    ground.append((name, chains[:number]))
                    found.append(name)
                    grown = True
    return ground


# The apart chains to the goal through some people alone, and their cut. Each name of a chain has
# an edge of the chain from it, so the edges from these people are all that such chains can use.
def told_through(edges, seers, people, goal):
    return apart_chains([edge for edge in edges if edge[0] in people], seers, goal)
