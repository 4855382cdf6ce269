"""Point 5: chains and goals, with holds and meets of the section tellsome/knowing.py of the interface."""

import unittest

from tellsome.errors import BadChain, BadScene, BadSet
from tellsome.knowing import evidence, holds, is_circle, is_path, meets
from tellsome.scenes import Claim, Scene
from tests.made import Small, Touchy, example, other_kinds, small_cases


def bad_chains():
    """What is no chain of the example's people."""
    return [
        (), ("ann",) * 4, ("ann", "bob", "ann", "bob"), ("cy",), ("ann", "cy"), ("cy", "ann"), ("odd",), ("Ann",),
        ("",), ("an",), ("anna",), ["ann"], "ann", "a", b"ann", {"ann"}, {"ann": True}, (b"ann",), (["ann"],),
        (("ann",),), (True,), (0,), (None,), ("ann", True), ("ann", 0), ("ann", None), ("ann", "bob", False), 0, True,
        None,
    ]


def calls_with(scene):
    """The four functions that take a scene, a set and a chain."""
    return (
        lambda said, chain: holds(scene, said, chain),
        lambda said, chain: evidence(scene, said, chain),
        lambda said, chain: is_circle(scene, said, chain, ((3,), (3,))),
        lambda said, chain: is_path(scene, said, chain, (3, 3)),
    )


class Holding(unittest.TestCase):
    def test_one_name(self):
        scene = example()
        self.assertEqual([holds(scene, said, ("ann",)) for said in ((), ("odd",), ("some",), ("odd", "some"))],
                         [False, True, False, True])
        self.assertEqual([holds(scene, said, ("bob",)) for said in ((), ("odd",), ("some",), ("odd", "some"))],
                         [False, False, False, False])

    def test_a_fact_that_is_false_in_the_real_world_is_never_known(self):
        for chain in (("ann",), ("bob", "ann"), ("ann",) * 3):
            self.assertIs(holds(example(fact=Claim(4, 0, 1, 2)), (), chain), False)
            self.assertIs(holds(example(fact=Claim(4)), (), chain), False)

    def test_a_fact_that_is_true_in_all_worlds_is_always_known(self):
        for chain in (("ann",), ("bob", "ann"), ("ann",) * 3, ("bob", "ann", "bob")):
            self.assertIs(holds(example(fact=Claim.sure(4)), (), chain), True)

    def test_only_the_worlds_that_remain_count(self):
        scene = Scene(2, 0, {"ann": (1, 1)}, Claim(2, 0), {"p": (Claim(2, 0), 1)}, [(("ann",), True)])
        self.assertEqual([holds(scene, (), ("ann",)), holds(scene, ("p",), ("ann",))], [False, True])

    def test_the_order_of_the_names_counts(self):
        people = {"ann": (0, 1, 2), "bob": (0, 0, 1), "cy": (0, 1, 1)}
        scene = Scene(3, 0, people, Claim(3, 0, 1), {}, [(("ann",), True)])
        self.assertEqual([holds(scene, (), ("bob", "cy")), holds(scene, (), ("cy", "bob"))], [False, True])
        self.assertEqual([holds(scene, (), ("ann", "bob", "cy")), holds(scene, (), ("cy", "cy", "bob"))], [False, True])

    def test_each_name_counts(self):
        people = {"ann": (0, 0, 1, 1, 2), "bob": (0, 1, 1, 2, 3), "cy": (0, 1, 2, 2, 3)}
        scene = Scene(5, 0, people, -Claim(5, 3), {}, [(("ann",), True)])
        self.assertIs(holds(scene, (), ("ann", "bob", "cy")), False)
        self.assertIs(holds(scene, (), ("ann", "bob", "ann")), False)
        for chain in (("ann", "bob"), ("bob", "ann", "cy"), ("ann", "cy", "bob"), ("cy", "bob", "ann"), ("ann",) * 3):
            self.assertIs(holds(scene, (), chain), True)

    def test_a_name_that_occurs_twice(self):
        people = {"ann": (0, 0, 1, 1), "bob": (0, 1, 1, 0)}
        scene = Scene(4, 0, people, -Claim(4, 2), {}, [(("ann",), True)])
        self.assertEqual([holds(scene, (), chain) for chain in (("ann",), ("ann", "ann"), ("ann", "ann", "ann"))],
                         [True, True, True])
        self.assertEqual([holds(scene, (), chain) for chain in (("ann", "bob"), ("ann", "bob", "bob"))], [False, False])
        self.assertEqual([holds(scene, (), chain) for chain in (("bob", "ann"), ("bob", "bob", "ann"))], [False, False])
        self.assertEqual([holds(scene, (), chain) for chain in (("bob",), ("bob", "bob"))], [True, True])

    def test_it_is_a_boolean(self):
        for said in ((), ("odd",)):
            self.assertIs(type(holds(example(), said, ("ann",))), bool)

    def test_small_scenes(self):
        found = []
        for small, said, chain in small_cases(150):
            found.append(holds(small.scene, said, chain))
            self.assertIs(found[-1], small.holds(said, chain, small.real))
        self.assertGreater(min(found.count(True), found.count(False)), 1000)


class Meeting(unittest.TestCase):
    def test_a_goal_of_either_boolean(self):
        goals = [(("ann",), True), (("ann",), False), (("bob",), True), (("bob",), False)]
        scene = example(goals=goals)
        self.assertEqual(meets(scene, ()), [False, True, False, True])
        self.assertEqual(meets(scene, ("odd",)), [True, False, False, True])

    def test_1_and_6_goals(self):
        self.assertEqual(meets(example(goals=[(("ann",), True)]), ("odd",)), [True])
        goals = [(("ann",) * size, wanted) for size in (1, 2, 3) for wanted in (True, False)]
        self.assertEqual(meets(example(goals=goals), ("odd",)), [True, False] * 3)

    def test_it_is_a_list_of_booleans(self):
        met = meets(example(), ())
        self.assertEqual([type(met), *map(type, met)], [list, bool, bool])

    def test_small_scenes(self):
        for start in range(300):
            small = Small(start)
            for said in small.sets():
                expected = [small.holds(said, chain, small.real) == wanted for chain, wanted in small.goals]
                self.assertEqual(meets(small.scene, said), expected)


class Refused(unittest.TestCase):
    def test_chains(self):
        for call in calls_with(example()):
            for chain in bad_chains() + other_kinds():
                with self.subTest(kind=type(chain)), self.assertRaises(BadChain):
                    call((), chain)
            for value in other_kinds():
                for chain in ((value,), ("ann", value), ("ann", "bob", value), (value, "ann")):
                    with self.subTest(kind=type(value)), self.assertRaises(BadChain):
                        call((), chain)

    def test_scenes(self):
        wrong = [value for value in other_kinds() if not isinstance(value, Scene)] + ["ann", 4, Scene, {}]
        for value in wrong:
            for call in calls_with(value):
                with self.subTest(kind=type(value)), self.assertRaises(BadScene) as caught:
                    call((), ("ann",))
                self.assertIsNone(caught.exception.part)
            with self.subTest(kind=type(value)), self.assertRaises(BadScene) as caught:
                meets(value, ())
            self.assertIsNone(caught.exception.part)

    def test_the_error_documented_first(self):
        for wrong in (None, True, ["odd"], Touchy()):
            for call in calls_with(wrong):
                with self.assertRaises(BadScene):
                    call(wrong, ("ann",))
                with self.assertRaises(BadScene):
                    call((), wrong)
                with self.assertRaises(BadScene):
                    call(wrong, wrong)
            for call in calls_with(example()):
                with self.assertRaises(BadSet):
                    call(wrong, wrong)
            with self.assertRaises(BadScene):
                meets(wrong, wrong)


class Defined(unittest.TestCase):
    def test_in_its_file(self):
        for function in (holds, evidence, meets, is_circle, is_path):
            self.assertEqual(function.__module__, "tellsome.knowing")

    def test_arguments_may_be_named(self):
        scene = example()
        self.assertIs(holds(scene=scene, said=(), chain=("ann",)), False)
        self.assertEqual(evidence(scene=scene, said=("odd",), chain=("ann",)), ((3,), (3,)))
        self.assertEqual(meets(scene=scene, said=()), [False, True])
        self.assertIs(is_circle(scene=scene, said=("odd",), chain=("ann",), found=((3,), (3,))), True)
        self.assertIs(is_path(scene=scene, said=("odd",), chain=("bob",), found=(3, 1)), True)


if __name__ == "__main__":
    unittest.main()
