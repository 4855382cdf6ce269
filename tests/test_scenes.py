"""Point 3, and the class Scene of the section tellsome/scenes.py of the interface, but for saying."""

import unittest
from itertools import combinations

from tellsome.errors import BadName, BadScene
from tellsome.scenes import Claim, Scene
from tests.made import Touchy, example, other_kinds, parts

PARTS = ("WORLDS", "PEOPLE", "FACT", "SENTENCES", "GOALS")
GOAL = (("ann",), True)


class SceneCase(unittest.TestCase):
    def refuse(self, part, **changes):
        with self.subTest(**{name: type(value) for name, value in changes.items()}):
            with self.assertRaises(BadScene) as caught:
                example(**changes)
            self.assertEqual(caught.exception.part, part)

    def sized(self, count, real=0):
        """A scene with a number of worlds and little else."""
        return Scene(count, real, {"ann": (0,) * count}, Claim(count), {}, [GOAL])


class Worlds(SceneCase):
    def test_numbers_from_2_to_8(self):
        for count in range(2, 9):
            for real in range(count):
                scene = self.sized(count, real)
                self.assertEqual(scene.actual, real)
                self.assertEqual(scene(()), tuple(range(count)))

    def test_numbers_beyond_the_bounds(self):
        for count in (1, 0, -1, 9, 10 ** 30):
            self.refuse("WORLDS", count=count, real=0)
        with self.assertRaises(BadScene) as caught:
            Scene(1, 0, {"ann": (0,)}, Claim(1), {}, [GOAL])
        self.assertEqual(caught.exception.part, "WORLDS")
        with self.assertRaises(BadScene) as caught:
            Scene(9, 0, {"ann": (0,) * 9}, Claim(8), {}, [GOAL])
        self.assertEqual(caught.exception.part, "WORLDS")

    def test_real_worlds_beyond_the_bounds(self):
        for real in (-1, 4, 8, 10 ** 30):
            self.refuse("WORLDS", real=real)

    def test_booleans(self):
        self.refuse("WORLDS", count=True)
        self.refuse("WORLDS", real=True)
        self.refuse("WORLDS", real=False)

    def test_values_of_other_kinds(self):
        for value in other_kinds():
            self.refuse("WORLDS", count=value)
            self.refuse("WORLDS", real=value)


class People(SceneCase):
    def people(self, **people):
        return example(people={"ann": (0, 0, 1, 1), "bob": (0, 1, 0, 1), **people}).people

    def test_in_their_order(self):
        self.assertEqual(self.people(), ["ann", "bob"])
        people = {"bob": (0, 1, 0, 1), "ann": (0, 0, 1, 1)}
        self.assertEqual(example(people=people).people, ["bob", "ann"])

    def test_1_to_4(self):
        self.assertEqual(example(people={"ann": (0, 0, 1, 1)}, goals=[GOAL]).people, ["ann"])
        self.assertEqual(self.people(cy=(0, 0, 0, 0), al=(3, 3, 3, 3)), ["ann", "bob", "cy", "al"])

    def test_0_and_5(self):
        self.refuse("PEOPLE", people={})
        self.refuse("PEOPLE", people={name: (0, 0, 0, 0) for name in ("ann", "bob", "cy", "dot", "eve")})

    def test_names_of_1_to_8_letters(self):
        for name in ("a", "z", "abcdefgh", "stuvwxyz", "ijklmnop", "qr"):
            self.assertEqual(self.people(**{name: (0, 1, 2, 3)})[-1], name)

    def test_names_that_are_none(self):
        names = (
            "", "abcdefghi", "Ann", "aNN", "a1", "1", "a b", " ann", "ann ", "ann\n", "\n", "a_b", "_", "a-b", "\u00e4",
            "\u0430nn", "\uff41", "\u00df", "`", "{", "ann\x00",
        )
        for name in names:
            self.refuse("PEOPLE", people={"ann": (0, 0, 0, 0), "bob": (0, 0, 0, 0), name: (0, 0, 0, 0)})

    def test_keys_of_other_kinds(self):
        for name in (True, False, 0, 1, None, b"cy", ("cy",), ("c", "y"), frozenset("cy"), str, object()):
            self.refuse("PEOPLE", people={"ann": (0, 0, 0, 0), "bob": (0, 0, 0, 0), name: (0, 0, 0, 0)})
            self.refuse("PEOPLE", people={name: (0, 0, 0, 0)})

    def test_numbers_from_0_to_3(self):
        self.assertEqual(self.people(cy=(0, 1, 2, 3)), ["ann", "bob", "cy"])
        for number in (-1, 4, 10 ** 30, True, False, None, "1", b"1", (1,), [1], Touchy()):
            for place in range(4):
                row = [0, 1, 2, 3]
                row[place] = number
                self.refuse("PEOPLE", people={"ann": (0, 0, 1, 1), "bob": tuple(row)})

    def test_one_number_for_each_world(self):
        for row in ((), (0, 0, 0), (0, 0, 0, 0, 0)):
            self.refuse("PEOPLE", people={"ann": row, "bob": (0, 0, 0, 0)})
            self.refuse("PEOPLE", people={"ann": (0, 0, 0, 0), "bob": row})

    def test_rows_of_other_kinds(self):
        for row in other_kinds() + [[0, 0, 1, 1], "0011", b"0011", {0: 0, 1: 0, 2: 1, 3: 1}, range(4)]:
            self.refuse("PEOPLE", people={"ann": row, "bob": (0, 0, 0, 0)})

    def test_values_of_other_kinds(self):
        pairs = (("ann", (0, 0, 1, 1)), ("bob", (0, 1, 0, 1)))
        for people in other_kinds() + [pairs, list(pairs), "ann", ["ann", "bob"]]:
            self.refuse("PEOPLE", people=people)


class Fact(SceneCase):
    def test_any_claim_with_as_many_worlds(self):
        for size in range(5):
            for worlds in combinations(range(4), size):
                self.assertEqual(example(fact=Claim(4, *worlds)).fact, Claim(4, *worlds))

    def test_other_numbers_of_worlds(self):
        for fact in (Claim(3), Claim(5), Claim(3, 2), Claim(5, 3), Claim(8, 3), Claim(1, 0)):
            self.refuse("FACT", fact=fact)

    def test_values_of_other_kinds(self):
        for fact in other_kinds() + [(3,), [3], 3, (4, 3)]:
            self.refuse("FACT", fact=fact)


class Sentences(SceneCase):
    def test_in_their_order(self):
        self.assertEqual(example().names, ["odd", "some"])
        sentences = {"some": (Claim(4, 3), 1), "odd": (Claim(4, 3), 1)}
        self.assertEqual(example(sentences=sentences).names, ["some", "odd"])

    def test_0_to_6(self):
        for many in range(7):
            sentences = {name: (Claim(4, 3), 1) for name in "abcdef"[:many]}
            scene = example(sentences=sentences)
            self.assertEqual(scene.names, list("abcdef"[:many]))
            self.assertEqual(len(scene), many)

    def test_7(self):
        self.refuse("SENTENCES", sentences={name: (Claim(4, 3), 1) for name in "abcdefg"})

    def test_costs_from_1_to_9(self):
        for cost in range(1, 10):
            self.assertEqual(example(sentences={"odd": (Claim(4, 3), cost)}).cost("odd"), cost)

    def test_costs_that_are_none(self):
        for cost in [0, 10, -1, 10 ** 30, "1", (1,), *other_kinds()]:
            self.refuse("SENTENCES", sentences={"odd": (Claim(4, 3), cost)})

    def test_claims(self):
        for claim in (Claim(4, 3), Claim.sure(4), Claim(4, 0, 3), -Claim(4, 1)):
            self.assertEqual(example(sentences={"odd": (claim, 1)})["odd"], claim)

    def test_claims_that_are_false_in_the_real_world(self):
        for claim in (Claim(4), Claim(4, 0, 1, 2), Claim(4, 1)):
            self.refuse("SENTENCES", sentences={"odd": (claim, 1)})
        for real in range(4):
            self.refuse("SENTENCES", real=real, sentences={"odd": (-Claim(4, real), 1)})

    def test_claims_that_are_none(self):
        for claim in [Claim(3, 2), Claim(5, 3), Claim(8, 3), (3,), [3], 3, *other_kinds()]:
            self.refuse("SENTENCES", sentences={"odd": (claim, 1)})

    def test_names_of_1_and_8_letters(self):
        for name in ("a", "z", "abcdefgh", "zzzzzzzz"):
            self.assertEqual(example(sentences={name: (Claim(4, 3), 1)}).names, [name])

    def test_names_that_are_none(self):
        names = ("", "abcdefghi", "Odd", "o1", "o d", "odd\n", "\u00f6", True, False, 1, None, b"odd", ("odd",), str)
        for name in names:
            self.refuse("SENTENCES", sentences={name: (Claim(4, 3), 1)})
            self.refuse("SENTENCES", sentences={"odd": (Claim(4, 3), 1), name: (Claim(4, 3), 1)})

    def test_pairs_of_other_kinds(self):
        pairs = [
            [Claim(4, 3), 1], (Claim(4, 3),), (Claim(4, 3), 1, 1), (1, Claim(4, 3)), Claim(4, 3), {Claim: 1, 1: 1},
            *other_kinds(),
        ]
        for pair in pairs:
            self.refuse("SENTENCES", sentences={"odd": pair})
            self.refuse("SENTENCES", sentences={"some": (Claim(4, 3), 1), "odd": pair})

    def test_values_of_other_kinds(self):
        for sentences in other_kinds() + ["odd", ["odd"], [("odd", (Claim(4, 3), 1))]]:
            if not (isinstance(sentences, dict) and len(sentences) == 0):
                self.refuse("SENTENCES", sentences=sentences)

    def test_a_sentence_may_have_the_name_of_a_person(self):
        self.assertEqual(example(sentences={"ann": (Claim(4, 3), 5)}).cost("ann"), 5)


class Goals(SceneCase):
    def test_1_to_6_as_a_list_or_tuple(self):
        for many in range(1, 7):
            goals = [(("ann",), at % 2 == 0) for at in range(many)]
            self.assertEqual(example(goals=goals).goals, goals)
            self.assertEqual(example(goals=tuple(goals)).goals, goals)

    def test_0_and_7(self):
        self.refuse("GOALS", goals=[])
        self.refuse("GOALS", goals=())
        self.refuse("GOALS", goals=[GOAL] * 7)
        self.refuse("GOALS", goals=(GOAL,) * 7)

    def test_chains_of_1_to_3_names_that_may_occur_twice(self):
        goals = [(("bob",), False), (("ann", "bob"), True), (("ann", "ann"), True), (("bob", "ann", "bob"), False)]
        self.assertEqual(example(goals=goals).goals, goals)
        self.assertEqual(example(goals=[(("ann",) * 3, True)]).goals, [(("ann",) * 3, True)])

    def test_chains_that_are_none(self):
        chains = [
            (), ("ann",) * 4, ("cy",), ("ann", "cy"), ("ann", "bob", "cy"), ("odd",), ["ann"], "ann", "a", b"ann",
            {"ann": 1}, {"ann"}, (b"ann",), (None,), (True,), (0,), (["ann"],), (("ann",),), ("Ann",), ("ann ",), ("",),
            *other_kinds(),
        ]
        for chain in chains:
            self.refuse("GOALS", goals=[(chain, True)])
            self.refuse("GOALS", goals=[GOAL, (chain, False)])

    def test_names_of_other_kinds_in_chains(self):
        for value in other_kinds():
            self.refuse("GOALS", goals=[((value,), True)])
            self.refuse("GOALS", goals=[(("ann", value), True)])

    def test_booleans_that_are_none(self):
        for wanted in [value for value in other_kinds() if not isinstance(value, bool)] + [0, 1, "yes"]:
            self.refuse("GOALS", goals=[(("ann",), wanted)])

    def test_pairs_of_other_kinds(self):
        for goal in [[("ann",), True], (("ann",),), (("ann",), True, True), (True, ("ann",)), "ab", *other_kinds()]:
            self.refuse("GOALS", goals=[goal])
            self.refuse("GOALS", goals=(GOAL, goal))

    def test_values_of_other_kinds(self):
        for goals in other_kinds() + [{GOAL: 1}, {GOAL}, iter([GOAL]), GOAL, "ann"]:
            self.refuse("GOALS", goals=goals)


class Order(SceneCase):
    def test_the_part_documented_first_is_named(self):
        wrong = {
            "WORLDS": {"count": 9}, "PEOPLE": {"people": {}}, "FACT": {"fact": Claim(3)}, "SENTENCES": {"sentences": []},
            "GOALS": {"goals": []},
        }
        for first, second in combinations(PARTS, 2):
            self.refuse(first, **wrong[first], **wrong[second])
        for part in PARTS:
            later = PARTS[PARTS.index(part):]
            self.refuse(part, **{name: value for at in later for name, value in wrong[at].items()})

    def test_the_part_documented_first_is_named_for_other_kinds(self):
        names = {"WORLDS": "real", "PEOPLE": "people", "FACT": "fact", "SENTENCES": "sentences", "GOALS": "goals"}
        for first, second in combinations(PARTS, 2):
            for value in (None, True, Touchy(), 7):
                self.refuse(first, **{names[first]: value, names[second]: value})

    def test_number_and_real_world_are_one_part(self):
        self.refuse("WORLDS", count=True, real=9, people=None)
        self.refuse("WORLDS", count=None, real=None)


class Asking(SceneCase):
    def test_claim_and_cost_of_each_sentence(self):
        scene = example()
        self.assertEqual([scene["odd"], scene["some"]], [Claim(4, 1, 3), Claim(4, 1, 2, 3)])
        self.assertEqual([scene.cost("odd"), scene.cost("some")], [2, 1])

    def test_not_the_name_of_a_sentence(self):
        values = ["ann", "od", "oddd", "Odd", "", 0, 1, ("odd",), ["odd"], b"odd", slice(0, 1), *other_kinds()]
        for value in values:
            with self.subTest(kind=type(value)), self.assertRaises(BadName):
                example()[value]
            with self.subTest(kind=type(value)), self.assertRaises(BadName):
                example().cost(value)

    def test_no_sentences(self):
        scene = example(sentences={})
        self.assertEqual([scene.names, len(scene), "odd" in scene], [[], 0, False])
        with self.assertRaises(BadName):
            scene["odd"]
        with self.assertRaises(BadName):
            scene.cost("odd")

    def test_in(self):
        scene = example()
        self.assertIs("odd" in scene, True)
        self.assertIs("some" in scene, True)
        for value in ["ann", "od", "", 0, ("odd",), b"odd", 0.5, *other_kinds()]:
            with self.subTest(kind=type(value)):
                self.assertIs(value in scene, False)

    def test_values_and_kinds_of_the_properties(self):
        scene = example()
        self.assertEqual(scene.actual, 3)
        self.assertEqual(scene.fact, Claim(4, 3))
        self.assertEqual(scene.people, ["ann", "bob"])
        self.assertEqual(scene.names, ["odd", "some"])
        self.assertEqual(scene.goals, [(("ann",), True), (("bob",), False)])
        kinds = [type(value) for value in (scene.actual, scene.fact, scene.people, scene.names, scene.goals)]
        self.assertEqual(kinds, [int, Claim, list, list, list])

    def test_len(self):
        self.assertEqual(len(example()), 2)

    def test_a_scene_is_not_iterated_over(self):
        with self.assertRaises(TypeError):
            list(example())


class Equality(SceneCase):
    def test_equal_if_all_parts_are(self):
        self.assertIs(example() == example(), True)
        self.assertIs(example() != example(), False)
        self.assertEqual(example(goals=tuple(parts()["goals"])), example())

    def test_not_equal_if_one_part_differs(self):
        odd, some = (Claim(4, 1, 3), 2), (-Claim(4, 0), 1)
        people = parts()["people"]
        other_scenes = (
            example(real=1),
            example(people={"bob": people["bob"], "ann": people["ann"]}),
            example(people={"ann": (0, 0, 1, 2), "bob": people["bob"]}),
            example(people={**people, "cy": (0, 0, 0, 0)}),
            example(fact=Claim(4, 2)),
            example(fact=Claim(4)),
            example(sentences={"some": some, "odd": odd}),
            example(sentences={"odd": odd}),
            example(sentences={"odd": odd, "more": some}),
            example(sentences={"odd": (Claim(4, 1, 3), 3), "some": some}),
            example(sentences={"odd": (Claim(4, 3), 2), "some": some}),
            example(goals=[(("bob",), False), (("ann",), True)]),
            example(goals=[(("ann",), True)]),
            example(goals=[(("ann",), True), (("bob",), True)]),
            example(goals=[(("ann",), True), (("bob", "bob"), False)]),
        )
        for other in other_scenes:
            self.assertIs(example() == other, False)
            self.assertIs(other != example(), True)

    def test_not_equal_if_names_of_people_differ(self):
        one = Scene(2, 0, {"ann": (0, 1), "bob": (0, 1)}, Claim(2), {}, [GOAL])
        other = Scene(2, 0, {"ann": (0, 1), "cy": (0, 1)}, Claim(2), {}, [GOAL])
        self.assertNotEqual(one, other)

    def test_not_equal_if_numbers_of_worlds_differ(self):
        self.assertNotEqual(self.sized(2), self.sized(3))

    def test_not_equal_to_other_kinds(self):
        for value in (None, 4, "odd", [], (), {}, Claim(4, 3), parts(), object()):
            self.assertFalse(example() == value)
            self.assertTrue(example() != value)


class Defined(unittest.TestCase):
    def test_in_its_file_and_in_the_class_itself(self):
        self.assertEqual(Scene.__module__, "tellsome.scenes")
        for name in ("__init__", "__getitem__", "cost", "__contains__", "__len__", "__call__", "__eq__"):
            self.assertIn(name, vars(Scene))
        for name in ("actual", "fact", "people", "names", "goals"):
            self.assertIsInstance(vars(Scene)[name], property)

    def test_arguments_may_be_named(self):
        scene = Scene(count=2, real=1, people={"ann": (0, 1)}, fact=Claim(count=2), sentences={}, goals=[GOAL])
        self.assertEqual(scene.actual, 1)


if __name__ == "__main__":
    unittest.main()
