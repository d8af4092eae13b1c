"""A world, written as a text that is read to the same world."""


def shown_world(world):
    rows = [["person"] + list(person) for person in world[0]]
    rows.extend([["matter", matter] for matter in world[1]])
    rows.extend([["against"] + list(pair) for pair in world[2]])
    rows.extend([words_of_event(event) for event in world[3]])
    return "\n".join([shown_row(row) for row in rows])


def words_of_event(event):
    if event[0] == "see":
        return list(event)
    quote = list(event[6])
    return list(event[:6]) + (["by"] + quote if len(quote) > 0 else [])


def shown_row(row):
    return " ".join([str(word) for word in row])
