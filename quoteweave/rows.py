"""The rows of a world's text, each read by itself."""

from quoteweave.errors import BadRow
from quoteweave.words import is_name, is_word, number_in, words_in

FORMS = {
    "person": ("name", "rank", "floor", "needs"),
    "matter": ("name",),
    "against": ("name", "name"),
    "see": ("time", "name", "name", "word"),
    "tell": ("time", "name", "name", "name", "word"),
}
NAMED = ("name", "person", "matter")
RANGES = {"rank": (0, 99), "floor": (0, 99), "needs": (1, 4), "time": (0, 999999999), "number": (0, 999999999)}
# Where in a row the two stand that are to be unlike.
UNLIKE = {"against": (1, 2), "tell": (2, 3)}
MOST_QUOTED = 6


def row_of(row, place):
    words = words_in(row)
    if len(words) == 0:
        return None
    values = values_by(form_for(words), words)
    if values is None or not are_unlike(values):
        raise BadRow(f"row {place} has none of the forms of a row", place)
    return values


# A form, or None for a first word that has none, tells the parts behind the first word.
def values_by(form, words):
    if form is None or len(words) != 1 + len(form):
        return None
    values = [words[0]] + [value_of(part, word) for part, word in zip(form, words[1:])]
    return None if None in values else values


# A wording may be the word "by" itself, so a quote is known by how many words there are.
def form_for(words):
    form = FORMS.get(words[0])
    if words[0] != "tell":
        return form
    quoted = len(words) - len(form) - 2
    if 1 <= quoted <= MOST_QUOTED:
        return form + ("by",) + ("name",) * quoted
    return form


def value_of(part, word):
    if part in NAMED:
        return word if is_name(word) else None
    if part == "word":
        return word if is_word(word) else None
    if part == "by":
        return word if word == "by" else None
    return number_within(RANGES[part], word)


def number_within(bounds, word):
    number = number_in(word)
    if number is None or not bounds[0] <= number <= bounds[1]:
        return None
    return number


def are_unlike(values):
    pair = UNLIKE.get(values[0])
    return pair is None or values[pair[0]] != values[pair[1]]
