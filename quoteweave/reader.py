"""A world's text, read row by row to a world."""

from quoteweave.errors import Misplaced, NoName, TooMany, Twice, Unfinished
from quoteweave.rows import row_of

# The lists of a world stand in the order in which their rows are to stand.
SECTIONS = {"person": 0, "matter": 1, "against": 2, "see": 3, "tell": 3}
MOST = (10, 6, 15, 80)
# Where in a row the people and the matters stand that are to be told ahead of it.
PEOPLE_AT = {"see": (2,), "tell": (2, 3)}
MATTERS_AT = {"against": (1, 2), "see": (3,), "tell": (4,)}
WORDING_ENDS = 6


# A splitlines would pass over the row behind a last line end, and that row counts.
def read_world(text):
    world = ([], [], [], [])
    rows = text.split("\n")
    for place, row in enumerate(rows, start=1):
        values = row_of(row, place)
        if values is not None:
            check_row(world, values, place)
            world[SECTIONS[values[0]]].append(entry_of(values))
    if len(world[0]) == 0 or len(world[1]) == 0:
        raise Unfinished("no person or no matter is told", len(rows))
    return world


# A row may have several of these faults, so the order of the questions is a promise.
def check_row(world, values, place):
    section = SECTIONS[values[0]]
    if any([len(later) > 0 for later in world[section + 1:]]):
        raise Misplaced(f"row {place} stands behind a row that is to stand behind it", place)
    if is_told(world, values):
        raise Twice(f"row {place} tells what is told before", place)
    if has_stranger(world, values):
        raise NoName(f"row {place} names a person or a matter that is not told ahead of it", place)
    if len(world[section]) >= MOST[section]:
        raise TooMany(f"row {place} is one more than may be", place)


def is_told(world, values):
    if values[0] == "person":
        return values[1] in names_of(world)
    if values[0] == "matter":
        return values[1] in world[1]
    if values[0] == "against":
        return (values[1], values[2]) in world[2] or (values[2], values[1]) in world[2]
    return False


def has_stranger(world, values):
    names = names_of(world)
    people = [values[at] for at in PEOPLE_AT.get(values[0], ())] + quote_in(values)
    matters = [values[at] for at in MATTERS_AT.get(values[0], ())]
    return any([name not in names for name in people]) or any([name not in world[1] for name in matters])


def names_of(world):
    return [person[0] for person in world[0]]


# Only a tell has words behind its wording: "by" and the people of the quote.
def quote_in(values):
    return values[WORDING_ENDS + 1:]


def entry_of(values):
    if values[0] == "matter":
        return values[1]
    if values[0] == "see":
        return tuple(values)
    if values[0] == "tell":
        return tuple(values[:WORDING_ENDS] + [tuple(quote_in(values))])
    return tuple(values[1:])
