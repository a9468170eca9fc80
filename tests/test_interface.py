"""The names and arguments of the interface."""

import importlib
import inspect
import unittest

FUNCTIONS = {
    "worths": {"reckoned": "(world, term)", "worths": "(world, kind, size)", "tried": "(world, saying, *, size=3)"},
    "judge": {"judged": "(world, saying, showing)"},
    "wording": {
        "term_text": "(term)", "read_term": "(world, text)", "world_text": "(world)", "read_world": "(text)",
        "saying_text": "(saying)", "read_saying": "(world, text)",
    },
    "writing": {"showing_text": "(showing)", "read_showing": "(world, text)"},
    "plain": {"plain": "(world, term, holes)", "fitting": "(world, names, term, holes)"},
    "seeking": {"sought": "(world, names, left, right, holes, *, most=4)"},
    "roads": {"run_road": "(world, saying, road)"},
    "leading": {"likeness": "(one, other)", "led": "(book, there, names)"},
    "export": {"book_text": "(book)", "read_book": "(text)"},
}
CLASSES = {
    "worlds": {"World": {
        "__init__": "(self)", "with_kind": "(self, name, builders)", "with_operator": "(self, name, takes, gives, rows)",
        "with_saying": "(self, saying)", "kinds": "(self)", "operators": "(self)", "sayings": "(self)",
        "kind_of": "(self, term, holes)",
    }},
    "sayings": {"Saying": {
        "__init__": "(self, name, holes, givens, left, right)", "name": "(self)", "holes": "(self)", "givens": "(self)",
        "left": "(self)", "right": "(self)",
    }},
    "judge": {"Slip": {"__init__": "(self, where, why)"}},
    "seeking": {
        "Answer": {},
        "Found": {"__init__": "(self, path, rings)", "shows": "(self, world, names, left, right, holes, *, most=4)"},
        "Lacking": {"__init__": "(self, rings)", "shows": "(self, world, names, left, right, holes, *, most=4)"},
    },
    "roads": {"Shown": {"__init__": "(self, made)"}, "Left": {"__init__": "(self, goals)"}},
    "books": {"Book": {
        "__init__": "(self, entries)", "entries": "(self)", "whole": "(self)", "states": "(self)",
        "showing": "(self, name)", "slip": "(self, name)", "left": "(self, name)", "leant": "(self, name)",
        "borne": "(self, name)",
    }},
    "leading": {"Led": {"__init__": "(self, there, by_names)"}, "Lame": {"__init__": "(self, called)"}},
    "house": {"House": {
        "__init__": "(self, book)", "put": "(self, entry, *, at=None, heard=None)", "take": "(self, name, *, heard=None)",
        "change": "(self, name, entry, *, heard=None)", "together": "(self, deeds, *, heard=None)",
        "undo": "(self, *, heard=None)", "book": "(self)", "editions": "(self)", "log": "(self)", "deeds": "(self)",
    }},
}


class Interface(unittest.TestCase):
    def test_functions(self):
        for module, functions in FUNCTIONS.items():
            for name, arguments in functions.items():
                with self.subTest(module=module, name=name):
                    found = getattr(importlib.import_module(f"showhouse.{module}"), name)
                    self.assertEqual(found.__module__, f"showhouse.{module}")
                    self.assertEqual(str(inspect.signature(found)), arguments)

    def test_classes_have_their_methods_themselves(self):
        for module, classes in CLASSES.items():
            for name, methods in classes.items():
                found = getattr(importlib.import_module(f"showhouse.{module}"), name)
                self.assertEqual(found.__module__, f"showhouse.{module}")
                for method, arguments in methods.items():
                    with self.subTest(module=module, name=name, method=method):
                        self.assertEqual(str(inspect.signature(vars(found)[method])), arguments)


if __name__ == "__main__":
    unittest.main()
