"""The form of the files, and that the interface stands where the document lists it."""

import inspect
import importlib
import pathlib
import unittest

from tests import form

FOLDER = pathlib.Path(__file__).parent.parent / "enoughhands"

INTERFACE = {
    "plans": {"Plan": "text"},
    "runs": {"many": "plan", "is_run": "plan value", "nth": "plan number", "number_of": "plan run", "every": "plan",
             "lots": "plan", "between": "plan one other", "shows_between": "plan one other value"},
    "pairs": {"word": "plan one other", "words": "plan", "told": "pairs", "shows_told": "pairs value"},
    "normal": {"normal": "plan", "same": "one other", "shows_same": "one other value", "within_runs": "one other",
               "shows_within_runs": "one other value"},
    "parts": {"clusters": "plan", "is_cluster": "plan value", "only": "plan tasks", "put": "plan tasks other",
              "around": "plan tasks name"},
    "trades": {"levels": "trade stock tasks", "least": "trade tasks", "net": "trade tasks", "told_back": "trade"},
    "stairs": {"stairs_of": "steps", "steps_by": "trade tasks", "steps_back": "steps", "gain_at": "stairs base",
               "no_less": "one other", "both": "one other"},
    "rows": {"first": "plan trade", "shows_first": "plan trade value", "spare": "plan trade stock", "row_of": "steps",
             "back": "row", "plain_steps": "row", "row": "plan trade", "best": "plan trade",
             "shows_best": "plan trade value"},
    "sums": {"then_row": "one other", "beside_row": "one other", "row_by": "plan rows"},
    "beside": {"first_beside": "plan trade need net", "first_with": "row steps", "row_within": "one other",
               "shows_row_within": "one other value", "within": "one trade other its",
               "shows_within": "one trade other its value", "alike": "one trade other its",
               "shows_alike": "one trade other its value"},
    "lots": {"reached_lots": "plan trade stock", "safe_lots": "plan trade stock", "guide": "plan trade stock",
             "traps": "plan trade stock", "room": "plan trade stock done", "is_closed": "plan trade stock value"},
    "stuck": {"can": "plan trade stock", "shows_can": "plan trade stock value", "never": "plan trade stock",
              "shows_never": "plan trade stock value", "sure_stocks": "plan trade", "forced": "plan trade stock"},
    "letruns": {"let_many": "plan trade stock", "let_nth": "plan trade stock number",
                "let_number": "plan trade stock run", "let_every": "plan trade stock", "let_stairs": "plan trade",
                "joined": "plan trade stock one other", "shows_joined": "plan trade stock one other value"},
    "crews": {"Crew": "text"},
    "duties": {"broken": "crew deal", "is_kept": "crew deal", "pattern_of": "crew deal", "patterns": "crew tasks"},
    "crewbeside": {"kept_within": "one other", "shows_kept_within": "one other value", "kept_alike": "one other",
                   "shows_kept_alike": "one other value", "idle_duties": "crew", "idle_mays": "crew",
                   "common": "one other"},
    "shares": {"shares": "crew tasks given away person", "leads": "crew tasks stand share"},
    "hands": {"reached": "crew tasks given away most", "is_hands": "crew tasks given away most value"},
    "dealing": {"dealt": "crew tasks given away most", "shows_dealt": "crew tasks given away most value",
                "fewest": "crew tasks given away", "shows_fewest": "crew tasks given away value",
                "able": "crew tasks given away", "needed": "crew tasks given away"},
    "dealranks": {"deals": "crew tasks given away", "every_deal": "crew tasks given away",
                  "nth_deal": "crew tasks given away number", "number_of_deal": "crew tasks given away deal"},
    "wanting": {"wanting": "crew tasks", "shows_wanting": "crew tasks value"},
    "works": {"Works": "text"},
    "days": {"wrong": "works value", "level": "works day", "left": "works day", "is_finished": "works day"},
    "finishing": {"finish": "works day away", "shows_finish": "works day away value", "choices_left": "works day away"},
    "restranks": {"rests": "works day away", "nth_rest": "works day away number",
                  "number_of_rest": "works day away events", "open_events": "works day away",
                  "shut_events": "works day away", "leaving": "works day away", "teams": "works day away"},
    "fronts": {"front": "works day away", "shows_front": "works day away value", "short": "works day away most"},
    "chances": {"eithers": "plan", "by": "plan foreign told", "asks": "plan foreign told tasks"},
    "trees": {"standings": "works foreign away", "surely": "works foreign away standing",
              "shows_surely": "works foreign away standing value", "view": "works foreign away standing",
              "if_known": "works foreign away"},
    "offers": {"changed": "works offers"},
    "choosing": {"cheapest": "works offers", "shows_cheapest": "works offers value", "vital": "works offers"},
    "slack": {"more_stock": "works day away", "shows_more_stock": "works day away value",
              "need_room": "works day away task", "shows_need_room": "works day away task value"},
    "losses": {"holds": "works day away many", "shows_holds": "works day away many value", "losses": "works day away"},
    "quarrels": {"quarrels": "works", "freed": "works"},
    "needless": {"needless": "works", "idle": "works"},
    "workbeside": {"within_days": "one other", "shows_within_days": "one other value", "alike_days": "one other",
                   "shows_alike_days": "one other value", "whole_days": "works", "shared_days": "one other",
                   "both_works": "one other", "idle_stock": "works"},
    "teams": {"manages": "works choice people", "shows_manages": "works choice people value",
              "choice_teams": "works choice", "twins": "works"},
    "benches": {"Bench": "works"},
    "journals": {"journal": "bench", "read_journal": "text"},
    "desk": {"Desk": "text"},
}
METHODS = {"plans": {"Plan": {"chosen": "choice", "next": "done", "rest": "done", "__len__": "", "__eq__": "other",
                              "__contains__": "value"}},
           "crews": {"Crew": {"may": "person", "with_may": "person task", "without_may": "person task",
                              "with_duty": "duty", "without_duty": "number", "__len__": "", "__eq__": "other",
                              "__contains__": "value"}},
           "works": {"Works": {"with_stock": "stock", "by": "choice", "__eq__": "other"}},
           "benches": {"Bench": {"events": "", "front": "", "rests": "", "do": "task person", "go": "person",
                                 "come": "person", "give": "number", "teach": "person task", "bind": "line",
                                 "loose": "number", "undo": "", "redo": "", "trial": "", "keep": "",
                                 "tried": "look keep", "copy": "", "__len__": "", "__eq__": "other",
                                 "__contains__": "value"}},
           "desk": {"Desk": {"say": "line"}}}


ATTRIBUTES = {"plans": ("Plan", "then(a,b)", "text kind parts tasks choices is_plain turned"),
              "crews": ("Crew", "may ann a", "text people duties"),
              "works": ("Works", "stock 0\nplan a\nmay ann a", "text stock plan trade crew"),
              "benches": ("Bench", "stock 0\nplan a\nmay ann a", "works first day away level done is_finished"),
              "desk": ("Desk", "stock 0\nplan a\nmay ann a\nbench", "bench")}


class Form(unittest.TestCase):

    def test_rules(self):
        texts = {}
        for path in sorted(FOLDER.glob("*.py")):
            name = "enoughhands" if path.stem == "__init__" else f"enoughhands.{path.stem}"
            texts[name] = path.read_text(encoding="utf-8")
        self.assertGreater(len(texts), 10)
        self.assertEqual(form.wrong(texts), [])

    def test_nothing_else_in_the_folder(self):
        found = [path.name for path in FOLDER.iterdir() if path.suffix != ".py" and path.name != "__pycache__"]
        self.assertEqual(found, [])

    def test_the_rules_find_something(self):
        for text in ("import os\n", "x = 1.5\n", "def f(n):\n    '''d'''\n    return n / 2\n",
                     "def f(rows):\n    '''d'''\n    return any(row for row in rows)\n",
                     "def f(list):\n    '''d'''\n    return list\n",
                     "def f(n):\n    '''d'''\n    return n is f\n",
                     "def f(n):\n    '''d'''\n    for one in set(n):\n        n = one\n    return n\n",
                     "def f(n):\n    '''d'''\n    return hash(n)\n", "x = 1\nx = 2\n",
                     "from enoughhands.other import g\n",
                     "def f(n):\n    '''d'''\n    try:\n        n = n[0]\n    except IndexError:\n        n = 1\n",
                     "def f(n):\n    '''d'''\n    return f(*n[1:])\n",
                     "class A:\n    def __exit__(self, kind, value, trace):\n        self.n.pop()\n",
                     "class A:\n    def __exit__(self, kind, value, trace):\n        self.n = trace\n"):
            self.assertTrue(form.wrong({"enoughhands.some": text}), text)
        self.assertEqual(form.wrong({"enoughhands.some": "def f(n):\n    '''d'''\n    return n + 1\n"}), [])


class Interface(unittest.TestCase):

    def test_functions(self):
        for module, names in INTERFACE.items():
            home = importlib.import_module(f"enoughhands.{module}")
            for name, told in names.items():
                with self.subTest(module, name=name):
                    thing = getattr(home, name)
                    self.assertEqual(thing.__module__, f"enoughhands.{module}")
                    self.assertEqual(list(inspect.signature(thing).parameters), told.split())

    def test_attributes(self):
        """Each one is set on each object when it is created."""
        works = importlib.import_module("enoughhands.works").Works
        for module, (kind, text, names) in ATTRIBUTES.items():
            made = getattr(importlib.import_module(f"enoughhands.{module}"), kind)(works(text) if kind == "Bench" else text)
            for name in names.split():
                with self.subTest(kind, name=name):
                    self.assertIn(name, vars(made))

    def test_methods(self):
        for module, kinds in METHODS.items():
            home = importlib.import_module(f"enoughhands.{module}")
            for kind, names in kinds.items():
                for name, told in names.items():
                    with self.subTest(kind, name=name):
                        method = vars(getattr(home, kind))[name]
                        self.assertEqual(list(inspect.signature(method).parameters)[1:], told.split())


if __name__ == "__main__":
    unittest.main()
