"""Point 4: sets of sentences and the worlds that remain."""

import unittest
from itertools import permutations

from tellsome.errors import BadSet
from tellsome.knowing import evidence, holds, is_circle, is_path, meets
from tellsome.scenes import Claim, Scene
from tests.made import Small, example, other_kinds

SIX = {name: (-Claim(8, at), 1) for at, name in enumerate("abcdef")}
LARGE = Scene(8, 7, {"ann": (0, 0, 1, 1, 2, 2, 3, 3)}, Claim(8, 7), SIX, [(("ann",), True)])


def bad_sets():
    """What is no set of the example's sentences."""
    return [
        ("some", "odd"), ("odd", "odd"), ("odd", "some", "odd"), ("odd", "some", "some"), ("even",), ("odd", "even"),
        ("ann",), ["odd"], [], "odd", "", ("",), ("Odd",), ("odd ",), (b"odd",), {"odd"}, {"odd": 1}, {}, {"odd": True},
        (("odd",),), ("odd", ("some",)), (0,), (True,), (False,), (None,), ("odd", True), ("odd", 1), ("odd", None),
        (["odd"],), 0, True, None,
    ]


class Remaining(unittest.TestCase):
    def test_the_empty_set_leaves_all_worlds(self):
        for count in range(2, 9):
            scene = Scene(count, 1, {"ann": (0,) * count}, Claim(count), {}, [(("ann",), True)])
            self.assertEqual(scene(()), tuple(range(count)))
        self.assertEqual(example()(()), (0, 1, 2, 3))

    def test_all_sentences_of_the_set_are_true(self):
        scene = example()
        self.assertEqual(scene(("odd",)), (1, 3))
        self.assertEqual(scene(("some",)), (1, 2, 3))
        self.assertEqual(scene(("odd", "some")), (1, 3))

    def test_six_sentences(self):
        self.assertEqual(LARGE(()), (0, 1, 2, 3, 4, 5, 6, 7))
        self.assertEqual(LARGE(("a", "c", "f")), (1, 3, 4, 6, 7))
        self.assertEqual(LARGE(tuple("abcdef")), (6, 7))

    def test_it_is_a_tuple(self):
        for said in ((), ("odd",), ("odd", "some")):
            self.assertIs(type(example()(said)), tuple)

    def test_small_scenes(self):
        for start in range(200):
            small = Small(start)
            for said in small.sets():
                self.assertEqual(small.scene(said), tuple(small.left(said)))


class Sets(unittest.TestCase):
    def test_only_the_order_of_the_scene(self):
        for size in range(7):
            for names in permutations("abcdef", size):
                if list(names) == sorted(names):
                    self.assertIn(7, LARGE(names))
                else:
                    with self.assertRaises(BadSet):
                        LARGE(names)

    def test_an_order_that_is_not_alphabetical(self):
        scene = example(sentences={"some": (Claim(4, 3), 1), "odd": (Claim(4, 3), 1)})
        self.assertEqual(scene(("some", "odd")), (3,))
        with self.assertRaises(BadSet):
            scene(("odd", "some"))

    def test_more_names_than_sentences(self):
        for said in (("a",) * 7, tuple("abcdefg"), tuple("abcdeff"), tuple("aabcdef")):
            with self.assertRaises(BadSet):
                LARGE(said)

    def test_what_is_no_set(self):
        scene = example()
        calls = (
            scene,
            lambda said: holds(scene, said, ("ann",)),
            lambda said: evidence(scene, said, ("ann",)),
            lambda said: meets(scene, said),
            lambda said: is_circle(scene, said, ("ann",), ((3,), (3,))),
            lambda said: is_path(scene, said, ("ann",), (3, 2)),
        )
        for call in calls:
            for said in bad_sets() + other_kinds():
                if isinstance(said, tuple) and len(said) == 0:
                    continue
                with self.subTest(kind=type(said)), self.assertRaises(BadSet):
                    call(said)

    def test_without_sentences_only_the_empty_set(self):
        scene = example(sentences={})
        self.assertEqual(scene(()), (0, 1, 2, 3))
        with self.assertRaises(BadSet):
            scene(("odd",))


class Confusing(unittest.TestCase):
    def test_same_number_in_two_worlds_that_remain(self):
        scene = Scene(
            4, 0, {"ann": (2, 2, 0, 2)}, Claim(4, 0, 1), {"few": (Claim(4, 0, 1, 2), 1)}, [(("ann",), True)]
        )
        self.assertIs(is_path(scene, (), ("ann",), (0, 3)), True)
        self.assertIs(is_path(scene, (), ("ann",), (0, 2)), False)
        self.assertIs(is_path(scene, ("few",), ("ann",), (0, 3)), False)
        self.assertEqual([holds(scene, (), ("ann",)), holds(scene, ("few",), ("ann",))], [False, True])

    def test_each_world_with_itself(self):
        scene = Scene(2, 1, {"ann": (0, 1)}, Claim(2, 0), {}, [(("ann",), True)])
        self.assertIs(is_path(scene, (), ("ann",), (1, 1)), True)
        self.assertEqual(evidence(scene, (), ("ann",)), (1, 1))


if __name__ == "__main__":
    unittest.main()
