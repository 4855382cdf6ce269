"""Point 8: good sets, breaches and rescues, with their functions of the section tellsome/telling.py."""

import unittest

from tellsome.errors import BadScene
from tellsome.knowing import meets
from tellsome.scenes import Claim, Scene
from tellsome.telling import breaches, good_sets, rescues
from tests.made import Small, example, other_kinds, telling_scenes


def families(small):
    """The good sets, breaches and rescues of a small scene, as point 8 says."""
    sets = small.sets()
    good = [said for said in sets if small.is_good(said)]
    pairs = [(one, two) for one in sets for two in sets if len(two) == len(one) + 1 and set(one) < set(two)]
    return (
        good,
        [(one, two) for one, two in pairs if one in good and two not in good],
        [(one, two) for one, two in pairs if one not in good and two in good],
    )


def teller(claims, goals, fact=(0,), people=None):
    """A scene of 4 worlds, the first one real, with sentences of cost 1."""
    sentences = {name: (Claim(4, *worlds), 1) for name, worlds in claims.items()}
    return Scene(4, 0, people or {"ann": (0, 0, 0, 0)}, Claim(4, *fact), sentences, goals)


KNOWN = [(("ann",), True)]
UNKNOWN = [(("ann",), False)]


class Families(unittest.TestCase):
    def test_the_example(self):
        scene = example()
        self.assertEqual(good_sets(scene), [("odd",), ("odd", "some")])
        self.assertEqual(breaches(scene), [])
        self.assertEqual(rescues(scene), [((), ("odd",)), (("some",), ("odd", "some"))])

    def test_small_scenes(self):
        found = [0, 0, 0]
        cases = [Small(start, sentences=4, goals=1 + start % 2) for start in range(120)]
        cases += [Small(start, sentences=6, goals=1) for start in range(30)]
        cases += telling_scenes(60, worlds=6, sentences=5, goals=2)
        for small in cases:
            expected = families(small)
            self.assertEqual((good_sets(small.scene), breaches(small.scene), rescues(small.scene)), expected)
            found = [many + (len(family) > 0) for many, family in zip(found, expected)]
        self.assertGreater(min(found), 20)

    def test_no_sentence(self):
        for goals, good in ((KNOWN, []), (UNKNOWN, [()])):
            scene = teller({}, goals)
            self.assertEqual([good_sets(scene), breaches(scene), rescues(scene)], [good, [], []])

    def test_six_sentences(self):
        scene = teller({name: (0, 1, 2, 3) for name in "fedcba"}, UNKNOWN)
        good = good_sets(scene)
        self.assertEqual([len(good), good[0], good[-1]], [64, (), tuple("fedcba")])
        self.assertEqual(good[1:9], [*((name,) for name in "fedcba"), ("f", "e"), ("f", "d")])
        self.assertEqual([breaches(scene), rescues(scene)], [[], []])
        scene = teller({**{name: (0, 1, 2, 3) for name in "fedcb"}, "a": (0,)}, UNKNOWN)
        self.assertEqual(len(good_sets(scene)), 32)
        self.assertEqual([len(breaches(scene)), rescues(scene)], [32, []])
        self.assertEqual(breaches(scene)[:2], [((), ("a",)), (("f",), ("f", "a"))])

    def test_both_ways_and_in_order(self):
        # Bob should not know that Ann knows: either b or c tells her, and b and c together tell him, too.
        people = {"ann": (0, 0, 1, 2), "bob": (0, 0, 0, 0)}
        claims = {"c": (0, 2), "b": (0, 3), "a": (0, 1, 2)}
        scene = teller(claims, [(("ann",), True), (("bob", "ann"), False)], people=people, fact=(0,))
        good = good_sets(scene)
        self.assertEqual(good, [said for said in [(), ("c",), ("b",), ("a",), ("c", "b"), ("c", "a"), ("b", "a"),
                                                  ("c", "b", "a")] if meets(scene, said) == [True, True]])
        self.assertEqual(good, [("c",), ("b",), ("c", "a")])
        self.assertEqual(rescues(scene), [((), ("c",)), ((), ("b",)), (("a",), ("c", "a"))])
        self.assertEqual(breaches(scene), [(("c",), ("c", "b")), (("b",), ("c", "b")), (("b",), ("b", "a")),
                                           (("c", "a"), ("c", "b", "a"))])

    def test_kinds(self):
        scene = example()
        for asked in (good_sets, breaches, rescues):
            self.assertIs(type(asked(scene)), list)
        self.assertEqual({type(said) for said in good_sets(scene)}, {tuple})
        self.assertEqual([type(part) for part in (rescues(scene)[0], *rescues(scene)[0])], [tuple] * 3)

    def test_six_goals(self):
        scene = example(goals=[(("ann",), True), (("bob",), False)] * 3)
        self.assertEqual(good_sets(scene), [("odd",), ("odd", "some")])
        scene = example(goals=[(("ann",), True), (("bob",), False)] * 2 + [(("ann",), True), (("ann",), False)])
        self.assertEqual([good_sets(scene), breaches(scene), rescues(scene)], [[], [], []])


class Refused(unittest.TestCase):
    def test_scenes(self):
        for asked in (good_sets, breaches, rescues):
            for value in other_kinds() + ["odd", Scene]:
                if not isinstance(value, Scene):
                    with self.subTest(kind=type(value)), self.assertRaises(BadScene) as caught:
                        asked(value)
                    self.assertIsNone(caught.exception.part)


if __name__ == "__main__":
    unittest.main()
