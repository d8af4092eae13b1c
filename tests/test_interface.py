"""The program as a whole: its names and arguments, what it draws on, and that what is told is the asker's own."""

import ast
import copy
import importlib
import inspect
import itertools
import pathlib
import unittest

import quoteweave
from helping import MATTERS, NAMES, OwnChecks, lists_in, see, spoil, tell, world_of
from quoteweave import asking, chains, errors, going, holders, papers, quotes, reader, rows, showing, strikes
from quoteweave.weave import Weave

FOLDER = pathlib.Path(quoteweave.__file__).parent
FUNCTIONS = {
    "words": {"is_name": ["word"], "is_word": ["word"], "number_in": ["word"]},
    "rows": {"row_of": ["row", "place"]},
    "reader": {"read_world": ["text"]},
    "showing": {"shown_world": ["world"]},
    "chains": {"apart_chains": ["edges", "starts", "goal"], "meets_all": ["edges", "starts", "goal", "cut"]},
    "holders": {"ground_by": ["edges", "seers", "needs"]},
    "going": {"going_order": ["events"], "gone": ["world"], "wrong_pairs": ["world"], "until_time": ["world", "time"]},
    "papers": {"ground_of": ["world", "matter"], "apart_of": ["world", "person", "matter"],
               "tellers_of": ["world", "person", "matter"], "wordings_of": ["world", "person", "matter"],
               "since_of": ["world", "person", "matter"]},
    "quotes": {"said_truly": ["world", "number"]},
    "strikes": {"struck": ["world", "person"], "leans_of": ["world", "person", "matter"],
                "hidden_of": ["world", "person", "matter"]},
    "asking": {"read_questions": ["text"], "answers": ["world_text", "questions_text"]},
}
METHODS = {"put": ["event"], "world": [], "steps": [], "held": []}
REFUSALS = ["BadRow", "Misplaced", "Twice", "NoName", "TooMany", "Unfinished"]
EVENTS = [see(2, "ann", "rain"), tell(4, "ann", "bob", "rain"), tell(6, "bob", "cid", "rain", ("ann",)),
          see(1, "ann", "wind"), tell(5, "ann", "bob", "wind"), tell(7, "cid", "ann", "rain", ("bob", "ann")),
          see(8, "bob", "sun"), see(9, "bob", "rain"), tell(9, "bob", "dan", "wind"), see(3, "eve", "wind")]
EDGES = [("ann", "bob"), ("bob", "cid"), ("cid", "ann"), ("ann", "cid")]


def arguments(asked):
    return list(inspect.signature(asked).parameters.values())


def all_told(world):
    """What each function tells of a world, and of parts of it."""
    text = showing.shown_world(world)
    questions = "who rain\nat 5\nground rain\napart cid rain"
    needs = [(person[0], person[3]) for person in world[0]]
    told = [text, reader.read_world(text), asking.read_questions(questions), asking.answers(text, questions),
            rows.row_of(text.split("\n")[0], 1), chains.apart_chains(EDGES, ["ann"], "cid"),
            chains.meets_all(EDGES, ["ann"], "cid", ["ann"]), holders.ground_by(EDGES, ["ann"], needs),
            going.going_order(world[3]), going.gone(world), going.wrong_pairs(world), going.until_time(world, 5)]
    told += [quotes.said_truly(world, number) for number in range(len(world[3]))]
    told += [papers.ground_of(world, matter) for matter in MATTERS] + [strikes.struck(world, name) for name in NAMES]
    for name, matter in itertools.product(NAMES, MATTERS):
        told += [ask(world, name, matter) for ask in (papers.apart_of, papers.tellers_of, papers.wordings_of,
                                                      papers.since_of, strikes.leans_of, strikes.hidden_of)]
    return told


def whole_numbers_in(value):
    if isinstance(value, (list, tuple)):
        return [number for part in value for number in whole_numbers_in(part)]
    return [value] if isinstance(value, int) else []


class Names(unittest.TestCase):
    def test_each_function_with_its_arguments(self):
        for place, functions in FUNCTIONS.items():
            part = importlib.import_module(f"quoteweave.{place}")
            for name, wanted in functions.items():
                asked = getattr(part, name)
                self.assertTrue(inspect.isfunction(asked), name)
                self.assertEqual(asked.__module__, f"quoteweave.{place}")
                self.assertEqual([argument.name for argument in arguments(asked)], wanted, name)
                self.assertEqual({argument.default for argument in arguments(asked)} - {inspect.Parameter.empty}, set())

    def test_the_weave(self):
        self.assertEqual([argument.name for argument in arguments(Weave)], ["people", "matters", "against"])
        for name, wanted in METHODS.items():
            self.assertEqual([argument.name for argument in arguments(getattr(Weave, name))][1:], wanted, name)

    def test_the_refusals(self):
        self.assertEqual(errors.WorldError.__bases__, (ValueError,))
        for name in REFUSALS:
            refusal = getattr(errors, name)
            self.assertEqual(refusal.__bases__, (errors.WorldError,))
            self.assertEqual([argument.name for argument in arguments(refusal)], ["words", "place"])
            self.assertEqual(refusal(words="some", place=3).place, 3)

    def test_arguments_by_their_names(self):
        world = world_of(EVENTS)
        self.assertEqual(papers.apart_of(world=world, person="bob", matter="rain"),
                         papers.apart_of(world, "bob", "rain"))
        text = showing.shown_world(world)
        self.assertEqual(asking.answers(world_text=text, questions_text="who sun"), "who sun: bob")
        self.assertIs(quotes.said_truly(world=world, number=1), True)


class Drawn(unittest.TestCase):
    """Nothing uses a clock, chance or files."""

    def test_only_the_program_s_own_files_are_drawn_from(self):
        for file in sorted(FOLDER.glob("*.py")):
            for node in ast.walk(ast.parse(file.read_text())):
                self.assertNotIsInstance(node, ast.Import, file.name)
                if isinstance(node, ast.ImportFrom):
                    self.assertTrue(node.level == 0 and node.module.startswith("quoteweave."), (file.name, node.module))

    def test_nothing_is_read_or_written(self):
        for file in sorted(FOLDER.glob("*.py")):
            names = {node.id for node in ast.walk(ast.parse(file.read_text())) if isinstance(node, ast.Name)}
            self.assertEqual(names & {"open", "print", "input", "eval", "exec", "__import__", "hash", "id"}, set())


class Own(OwnChecks, unittest.TestCase):
    EVENTS = EVENTS
    MANY = 500

    def asked(self, world):
        before = copy.deepcopy((world, EDGES))
        told = all_told(world)
        self.assertEqual((world, EDGES), before)
        self.assertFalse([part for part in lists_in(told) if part is EDGES])
        return told

    def test_what_a_weave_tells_is_asked_of_as_a_world(self):
        people, matters, against, events = world_of(EVENTS)
        weave = Weave(people, matters, against)
        for event in events:
            weave.put(event)
        told = all_told(weave.world())
        self.assertEqual(told, all_told(world_of(EVENTS)))
        spoil(told)
        self.assertEqual(weave.world(), world_of(EVENTS))
        self.assertEqual(all_told(weave.world()), all_told(world_of(EVENTS)))

    def test_numbers_told_are_whole_numbers(self):
        world = world_of(EVENTS)
        numbers = [part for part in all_told(world) if not isinstance(part, bool)]
        # Whether an event is taken is the one True or False within what is told.
        steps = [(step[0],) + step[2:] for step in going.gone(world)]
        told = [steps] + [part for part in numbers if part != going.gone(world)]
        self.assertEqual({type(number) for number in whole_numbers_in(told)}, {int})


if __name__ == "__main__":
    unittest.main()
