"""The names, arguments and methods of the interface, file by file."""

import inspect
import unittest

from tellsome import desks, errors, knowing, scenes, telling, texts, together

FUNCTIONS = {
    knowing: {
        "holds": ["scene", "said", "chain"], "evidence": ["scene", "said", "chain"], "meets": ["scene", "said"],
        "is_circle": ["scene", "said", "chain", "found"], "is_path": ["scene", "said", "chain", "found"],
    },
    telling: {
        "good_sets": ["scene"], "breaches": ["scene"], "rescues": ["scene"], "set_cost": ["scene", "said"],
        "cheapest": ["scene"],
    },
    together: {
        "horizon": ["scene", "said", "group"], "is_common": ["scene", "said", "group"],
        "dialogue": ["scene", "said", "speakers"],
    },
    texts: {"scene_text": ["scene"], "read_scene": ["text"]},
}

# Each class with the arguments of its methods; operators are called by their signs, so theirs have no names.
CLASSES = {
    scenes: {
        "Claim": {"__init__": ["count", "worlds"], "sure": ["count"]},
        "Scene": {"__init__": ["count", "real", "people", "fact", "sentences", "goals"], "cost": ["name"],
                  "__call__": ["said"]},
    },
    telling: {
        "Telling": {"__init__": ["said", "reasons", "doubts"], "shows": ["scene"]},
        "NoTelling": {"__init__": ["doubts"], "shows": ["scene"]},
    },
    desks: {
        "Desk": {"__init__": ["scene"], "say": ["name"], "undo": [], "helpful": [], "after": ["scene", "said"]},
    },
}

OPERATORS = {
    scenes.Claim: ["__and__", "__or__", "__neg__", "__contains__", "__len__", "__eq__"],
    scenes.Scene: ["__getitem__", "__contains__", "__len__", "__eq__"],
    telling.Telling: ["__eq__"],
    telling.NoTelling: ["__eq__"],
    desks.Desk: ["__contains__", "__len__", "__bool__"],
}

PROPERTIES = {
    scenes.Claim: ["total", "worlds"],
    scenes.Scene: ["actual", "fact", "people", "names", "goals"],
    desks.Desk: ["so_far", "left", "spent", "unmet"],
}

ERRORS = [
    "TellError", "BadClaim", "BadScene", "BadName", "BadSet", "BadChain", "BadWorlds", "BadGroup", "SaidBefore",
    "NothingSaid", "BadText",
]


class Interface(unittest.TestCase):
    def test_functions(self):
        for module, functions in FUNCTIONS.items():
            for name, arguments in functions.items():
                found = vars(module)[name]
                self.assertTrue(inspect.isfunction(found))
                self.assertEqual([found.__module__, found.__name__], [module.__name__, name])
                self.assertEqual(list(inspect.signature(found).parameters), arguments)

    def test_classes_and_methods(self):
        for module, classes in CLASSES.items():
            for name, methods in classes.items():
                found = vars(module)[name]
                self.assertTrue(inspect.isclass(found))
                self.assertEqual([found.__module__, found.__name__], [module.__name__, name])
                for method, arguments in methods.items():
                    told = vars(found)[method]
                    told = told.__func__ if isinstance(told, classmethod) else told
                    self.assertEqual(list(inspect.signature(told).parameters)[1:], arguments)

    def test_class_methods(self):
        for kind, name in ((scenes.Claim, "sure"), (desks.Desk, "after")):
            self.assertIsInstance(vars(kind)[name], classmethod)

    def test_operators_and_properties_stand_in_the_class_itself(self):
        for kind, names in OPERATORS.items():
            for name in names:
                self.assertIn(name, vars(kind))
        for kind, names in PROPERTIES.items():
            for name in names:
                self.assertIsInstance(vars(kind)[name], property)

    def test_errors(self):
        for name in ERRORS:
            found = vars(errors)[name]
            self.assertTrue(issubclass(found, ValueError))
            self.assertEqual([found.__module__, found.__name__], ["tellsome.errors", name])

    def test_the_list_of_worlds_of_a_claim_is_open(self):
        parameters = inspect.signature(scenes.Claim).parameters
        self.assertIs(parameters["worlds"].kind, inspect.Parameter.VAR_POSITIONAL)

    def test_helpful_is_a_generator(self):
        self.assertTrue(inspect.isgeneratorfunction(desks.Desk.helpful))


if __name__ == "__main__":
    unittest.main()
