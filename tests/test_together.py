"""Points 9 and 10: horizons, common facts and dialogues, with the section tellsome/together.py of the interface."""

import unittest
from itertools import permutations, product

from tellsome.errors import BadGroup, BadScene, BadSet
from tellsome.knowing import holds
from tellsome.scenes import Claim, Scene
from tellsome.together import dialogue, horizon, is_common
from tests.made import Numbers, Small, Touchy, example, other_kinds

# Each world is confused with its neighbours only: Ann links 0 and 1, 2 and 3, ..; Bob links 1 and 2, 3 and 4, ..
LINE = {"ann": (0, 0, 1, 1, 2, 2, 3, 3), "bob": (0, 1, 1, 2, 2, 3, 3, 1)}


def line(real, fact, **sentences):
    """A scene of 8 worlds in a line, in which bob links world 7 to 1 and 2."""
    told = {name: (Claim(8, *worlds), 1) for name, worlds in sentences.items()}
    return Scene(8, real, LINE, Claim(8, *fact), told, [(("ann",), True)])


def four():
    """A scene with four people, the order of whom is not alphabetical."""
    people = {"dot": (0, 0, 1, 2), "bob": (0, 1, 1, 2), "cy": (0, 1, 2, 2), "ann": (0, 1, 2, 3)}
    return Scene(4, 0, people, -Claim(4, 3), {"p": (-Claim(4, 1), 1)}, [(("ann",), True)])


def speakers_of(small, numbers, many):
    """A number of people, drawn one by one."""
    return [small.people[numbers.below(len(small.people))] for _ in range(many)]


class Horizons(unittest.TestCase):
    def test_small_scenes(self):
        sizes, common = [], []
        for start in range(150):
            small = Small(start, worlds=8, sentences=4)
            for said, group in product(small.sets(), small.groups()):
                expected = small.horizon(said, group)
                self.assertEqual(horizon(small.scene, said, group), expected)
                told = is_common(small.scene, said, group)
                self.assertIs(told, all(world in small.fact for world in expected))
                sizes.append(len(expected))
                common.append(told)
        self.assertGreater(len(set(sizes)), 6)
        self.assertGreater(min(common.count(True), common.count(False)), 1000)

    def test_chains_of_the_people_hold_where_the_fact_is_common(self):
        many = 0
        for start in range(150):
            small = Small(start)
            for said, group in product(small.sets(), small.groups()):
                if is_common(small.scene, said, group):
                    for size in (1, 2, 3):
                        for chain in product(group, repeat=size):
                            self.assertIs(holds(small.scene, said, chain), True)
                            many += 1
        self.assertGreater(many, 1000)

    def test_a_group_of_one(self):
        scene = line(4, range(8))
        self.assertEqual([horizon(scene, (), ("ann",)), horizon(scene, (), ("bob",))], [(4, 5), (3, 4)])
        for person, worlds in (("dot", (0, 1)), ("bob", (0,)), ("cy", (0,)), ("ann", (0,))):
            self.assertEqual(horizon(four(), (), (person,)), worlds)

    def test_all_people(self):
        self.assertEqual(horizon(four(), (), ("dot", "bob", "cy", "ann")), (0, 1, 2, 3))
        self.assertEqual(horizon(four(), ("p",), ("dot", "bob", "cy", "ann")), (0,))

    def test_many_steps(self):
        for real in range(8):
            self.assertEqual(horizon(line(real, ()), (), ("ann", "bob")), tuple(range(8)))
        # Without the ways past world 7, the last world is seven steps away from the first one.
        people = {"ann": (0, 0, 1, 1, 2, 2, 3, 3), "bob": (0, 1, 1, 2, 2, 3, 3, 0)}
        scene = Scene(8, 0, people, Claim.sure(8), {"cut": (-Claim(8, 7), 1)}, [(("ann",), True)])
        self.assertEqual(horizon(scene, ("cut",), ("ann", "bob")), (0, 1, 2, 3, 4, 5, 6))

    def test_seven_steps_in_a_line_of_8_worlds(self):
        people = {"ann": (0, 0, 1, 1, 2, 2, 3, 3), "bob": (0, 1, 1, 2, 2, 3, 3, 3), "cy": (0, 1, 2, 0, 1, 2, 0, 1)}
        scene = Scene(8, 0, people, -Claim(8, 7), {}, [(("ann",), True)])
        self.assertEqual(horizon(scene, (), ("ann", "bob")), tuple(range(8)))
        self.assertIs(is_common(scene, (), ("ann", "bob")), False)

    def test_no_step(self):
        scene = Scene(3, 1, {"ann": (0, 1, 2), "bob": (3, 2, 3)}, Claim(3, 1), {}, [(("ann",), True)])
        self.assertEqual(horizon(scene, (), ("ann", "bob")), (1,))
        self.assertIs(is_common(scene, (), ("ann", "bob")), True)

    def test_only_through_worlds_that_remain(self):
        scene = line(0, (0, 1), cut=(0, 1, 3, 4, 5, 6))
        self.assertEqual(horizon(scene, (), ("ann", "bob")), tuple(range(8)))
        self.assertEqual(horizon(scene, ("cut",), ("ann", "bob")), (0, 1))
        self.assertEqual([is_common(scene, said, ("ann", "bob")) for said in ((), ("cut",))], [False, True])

    def test_only_steps_of_the_group(self):
        scene = four()
        self.assertEqual(horizon(scene, (), ("dot", "bob")), (0, 1, 2))
        self.assertEqual(horizon(scene, (), ("dot", "cy")), (0, 1))
        self.assertEqual(horizon(scene, (), ("bob", "cy")), (0,))
        self.assertEqual([is_common(scene, (), ("dot", "bob")), is_common(scene, (), ("dot", "bob", "cy"))],
                         [True, False])

    def test_a_fact_that_is_false_in_the_real_world_is_not_common(self):
        self.assertIs(is_common(line(3, (0, 1, 2, 4, 5, 6, 7)), (), ("ann",)), False)

    def test_kinds(self):
        self.assertIs(type(horizon(example(), (), ("ann",))), tuple)
        self.assertIs(type(is_common(example(), (), ("ann",))), bool)


class Dialogues(unittest.TestCase):
    def test_small_scenes(self):
        narrowed = knowing = 0
        for start in range(150):
            small, numbers = Small(start, worlds=8, sentences=3), Numbers(start + 1000)
            for said in small.sets():
                speakers = speakers_of(small, numbers, numbers.below(21))
                expected = small.dialogue(said, speakers)
                self.assertEqual(dialogue(small.scene, said, speakers), expected)
                self.assertEqual(dialogue(small.scene, said, tuple(speakers)), expected)
                narrowed += len({worlds for _, worlds in expected}) > 1
                knowing += len({known for known, _ in expected}) > 1
        self.assertGreater(min(narrowed, knowing), 20)

    def test_what_one_says_teaches_the_next_one(self):
        people = {"ann": (0, 0, 1), "bob": (0, 1, 1)}
        scene = Scene(3, 0, people, Claim(3, 0, 1), {}, [(("ann",), True)])
        self.assertEqual(dialogue(scene, (), ("ann", "bob")), [(True, (0, 1)), (True, (0, 1))])
        scene = Scene(3, 1, people, Claim(3, 0, 1), {}, [(("ann",), True)])
        self.assertEqual(dialogue(scene, (), ("bob",)), [(False, (1, 2))])
        self.assertEqual(dialogue(scene, (), ("ann", "bob")), [(True, (0, 1)), (True, (0, 1))])
        self.assertEqual(dialogue(scene, (), ("bob", "ann", "bob")), [(False, (1, 2)), (True, (1,)), (True, (1,))])

    def test_the_worlds_in_which_they_do_not_know_it(self):
        scene = Scene(4, 1, {"ann": (0, 1, 1, 2)}, Claim(4, 0, 1, 3), {}, [(("ann",), True)])
        self.assertEqual(dialogue(scene, (), ["ann"]), [(False, (1, 2))])

    def test_a_false_fact_is_not_known(self):
        scene = Scene(3, 1, {"ann": (0, 1, 2)}, Claim(3, 0), {}, [(("ann",), True)])
        self.assertEqual(dialogue(scene, (), ["ann"]), [(False, (1, 2))])

    def test_it_begins_with_the_worlds_that_remain(self):
        scene = example()
        self.assertEqual(dialogue(scene, ("odd",), ["bob", "ann"]), [(False, (1, 3)), (True, (3,))])
        self.assertEqual(dialogue(scene, ("some",), ["bob", "ann"]), [(False, (1, 2, 3)), (False, (1, 2, 3))])
        self.assertEqual(dialogue(scene, (), ["bob", "ann"]), [(False, (0, 1, 2, 3))] * 2)

    def test_no_speaker(self):
        for speakers in ([], ()):
            self.assertEqual(dialogue(example(), ("odd",), speakers), [])

    def test_20_speakers(self):
        for speakers in (["ann", "bob"] * 10, ("ann", "bob") * 10):
            self.assertEqual(dialogue(example(), ("odd",), speakers), [(True, (3,))] * 20)

    def test_21_speakers(self):
        for speakers in (["ann"] * 21, ("ann",) * 21, ["ann", "bob"] * 50):
            with self.assertRaises(BadGroup):
                dialogue(example(), (), speakers)

    def test_speakers_are_neither_modified_nor_kept(self):
        speakers = ["ann", "bob"]
        turns = dialogue(example(), ("odd",), speakers)
        self.assertEqual(speakers, ["ann", "bob"])
        speakers.append("ann")
        self.assertEqual(turns, dialogue(example(), ("odd",), ("ann", "bob")))

    def test_kinds(self):
        turns = dialogue(example(), (), ["ann"])
        self.assertEqual([type(turns), type(turns[0]), *map(type, turns[0])], [list, tuple, bool, tuple])


class Refused(unittest.TestCase):
    def calls(self):
        return (horizon, is_common, dialogue)

    def test_groups(self):
        wrong = [
            (), ("bob", "ann"), ("ann", "ann"), ("ann", "bob", "ann"), ("ann", "bob", "bob"), ["ann"], ["ann", "bob"],
            "ann", "a", b"ann", {"ann"}, {"ann": 1}, ("cy",), ("ann", "cy"), ("cy", "ann"), ("odd",), ("Ann",), ("",),
            (["ann"],), (("ann",),), (b"ann",), ("ann", True), ("ann", None), (0,), iter(("ann",)), None, True, 0,
            ("ann",) * 30,
        ]
        for call in (horizon, is_common):
            for group in wrong + other_kinds():
                with self.subTest(kind=type(group)), self.assertRaises(BadGroup):
                    call(example(), (), group)
            for value in other_kinds():
                for group in ((value,), ("ann", value), (value, "bob")):
                    with self.subTest(kind=type(value)), self.assertRaises(BadGroup):
                        call(example(), (), group)

    def test_only_the_order_of_the_scene(self):
        names = ["dot", "bob", "cy", "ann"]
        for size in range(1, 5):
            for group in permutations(names, size):
                if list(group) == [name for name in names if name in group]:
                    self.assertIn(0, horizon(four(), (), group))
                    self.assertIn(is_common(four(), (), group), (True, False))
                else:
                    for call in (horizon, is_common):
                        with self.assertRaises(BadGroup):
                            call(four(), (), group)

    def test_speakers(self):
        wrong = [
            "ann", "a", b"ann", {"ann"}, {"ann": 1}, {"ann": 1}.keys(), iter(["ann"]), (name for name in ["ann"]),
            ["cy"], ("cy",), ["ann", "cy"], ["odd"], [""], [["ann"]], [("ann",)], [True], [0], None, True, 0,
        ]
        good = ([], (), ["ann"])
        wrong += [value for value in other_kinds() if all(repr(value) != repr(speakers) for speakers in good)]
        for speakers in wrong:
            with self.subTest(kind=type(speakers)), self.assertRaises(BadGroup):
                dialogue(example(), (), speakers)
        for value in other_kinds():
            for speakers in ([value], (value,), ["ann", value], (value, "ann")):
                with self.subTest(kind=type(value)), self.assertRaises(BadGroup):
                    dialogue(example(), (), speakers)

    def test_scenes(self):
        for call in self.calls():
            for value in other_kinds() + ["ann", Scene]:
                if not isinstance(value, Scene):
                    with self.subTest(kind=type(value)), self.assertRaises(BadScene) as caught:
                        call(value, (), ("ann",))
                    self.assertIsNone(caught.exception.part)

    def test_sets(self):
        for call in self.calls():
            for value in [["odd"], ("some", "odd"), ("odd", "odd"), ("even",), "odd", {"odd"}, None, True, Touchy(),
                          ("odd", True), (Touchy(),)]:
                with self.subTest(kind=type(value)), self.assertRaises(BadSet):
                    call(example(), value, ("ann",))

    def test_the_error_documented_first(self):
        for call in self.calls():
            for wrong in (None, True, {"ann"}, Touchy(), "ann"):
                with self.assertRaises(BadScene):
                    call(wrong, wrong, wrong)
                with self.assertRaises(BadScene):
                    call(wrong, (), wrong)
                with self.assertRaises(BadScene):
                    call(wrong, wrong, ("ann",))
                with self.assertRaises(BadSet):
                    call(example(), wrong, wrong)
                with self.assertRaises(BadGroup):
                    call(example(), (), wrong)


if __name__ == "__main__":
    unittest.main()
