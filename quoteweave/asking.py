"""A text of questions, read row by row, and the text that answers them of a world."""

from quoteweave.errors import BadRow, NoName
from quoteweave.moments import held_in, last_moment, moment_at, past_in
from quoteweave.papers import apart_in, ground_in, since_in, tellers_in, wordings_in
from quoteweave.quotes import said_truly_in
from quoteweave.reader import names_of, read_world
from quoteweave.rows import values_by
from quoteweave.showing import shown_row
from quoteweave.strikes import fallen_in, hidden_in, leans_in
from quoteweave.words import words_in

FORMS = {
    "at": ("time",),
    "who": ("matter",),
    "what": ("person",),
    "since": ("person", "matter"),
    "tellers": ("person", "matter"),
    "wordings": ("person", "matter"),
    "apart": ("person", "matter"),
    "leans": ("person", "matter"),
    "hidden": ("person", "matter"),
    "cut": ("person", "matter"),
    "ground": ("matter",),
    "strike": ("person",),
    "quote": ("number",),
}


def read_questions(text):
    return [question for place, question in placed_questions(text)]


# A moment's steps are a part of the whole world's, so the events are gone through once for all questions.
def answers(world_text, questions_text):
    world = read_world(world_text)
    placed = placed_questions(questions_text)
    check_names(world, placed)
    whole = last_moment(world)
    moment = whole
    rows = []
    for place, question in placed:
        if question[0] == "at":
            moment = moment_at(whole, question[1])
        else:
            rows.append(answer_row(moment, question))
    return "\n".join(rows)


def placed_questions(text):
    placed = []
    for place, row in enumerate(text.split("\n"), start=1):
        words = words_in(row)
        if len(words) > 0:
            placed.append((place, question_of(words, place)))
    return placed


def question_of(words, place):
    values = values_by(FORMS.get(words[0]), words)
    if values is None:
        raise BadRow(f"row {place} has none of the forms of a question", place)
    return tuple(values)


def check_names(world, placed):
    told = {"person": names_of(world), "matter": world[1]}
    for place, question in placed:
        for part, value in zip(FORMS[question[0]], question[1:]):
            if part in told and value not in told[part]:
                raise NoName(f"row {place} asks for a person or a matter that the world does not tell", place)


def answer_row(moment, question):
    return shown_row([shown_row(question) + ":"] + ANSWERS[question[0]](moment, question))


def who_words(moment, question):
    return [name for name, matter in held_in(moment) if matter == question[1]]


def what_words(moment, question):
    return [matter for name, matter in held_in(moment) if name == question[1]]


def since_words(moment, question):
    since = since_in(moment, question[1], question[2])
    return ["never" if since is None else since]


def tellers_words(moment, question):
    return tellers_in(moment, question[1], question[2])


def wordings_words(moment, question):
    return by_turns(wordings_in(moment, question[1], question[2]))


def apart_words(moment, question):
    told = apart_in(moment, question[1], question[2])
    return [len(told[0])] + behind("|", told[0]) + ["cut"] + told[1]


def leans_words(moment, question):
    return leans_in(moment, question[1], question[2])


def hidden_words(moment, question):
    return hidden_in(moment, question[1], question[2])


# Whoever has no cut holds it.
def cut_words(moment, question):
    return dict(ground_in(moment, question[2])[1]).get(question[1], ["holds"])


def ground_words(moment, question):
    return behind("|", [[name] + behind("by", chains) for name, chains in ground_in(moment, question[1])[0]])


def strike_words(moment, question):
    return by_turns(fallen_in(moment, question[1]))


def quote_words(moment, question):
    if question[1] not in past_in(moment):
        return ["none"]
    return ["true" if said_truly_in(moment, question[1]) else "false"]


def by_turns(pairs):
    words = []
    for pair in pairs:
        words.extend(pair)
    return words


def behind(sign, parts):
    words = []
    for part in parts:
        words.extend([sign] + part)
    return words


ANSWERS = {
    "who": who_words,
    "what": what_words,
    "since": since_words,
    "tellers": tellers_words,
    "wordings": wordings_words,
    "apart": apart_words,
    "leans": leans_words,
    "hidden": hidden_words,
    "cut": cut_words,
    "ground": ground_words,
    "strike": strike_words,
    "quote": quote_words,
}
