"""Point 6: circles and paths."""

import unittest
from itertools import combinations, product

from tellsome.errors import BadChain, BadScene, BadSet, BadWorlds
from tellsome.knowing import evidence, holds, is_circle, is_path
from tellsome.scenes import Claim, Scene
from tests.made import Touchy, example, other_kinds, small_cases


def changed_path(path, count):
    """The path with one of its worlds exchanged, and with one more or less at either end."""
    for place, world in product(range(len(path)), range(count)):
        yield path[:place] + (world,) + path[place + 1:]
    for world in range(count):
        yield path + (world,)
        yield (world,) + path
    yield path[1:]
    yield path[:-1]


def changed_circle(circle, count):
    """The circle with one of its rings changed, and with one more or less at either end."""
    subsets = [ring for size in range(count + 1) for ring in combinations(range(count), size)]
    for place, ring in product(range(len(circle)), subsets):
        yield circle[:place] + (ring,) + circle[place + 1:]
    for place, ring in enumerate(circle):
        yield circle[:place] + (ring + ring[-1:],) + circle[place + 1:]
        yield circle[:place] + (ring[::-1],) + circle[place + 1:]
    yield circle + circle[-1:]
    yield circle[:1] + circle
    yield circle[1:]
    yield circle[:-1]


class Evidence(unittest.TestCase):
    def test_circle_or_path_exactly_as_holds_says(self):
        for small, said, chain in small_cases(150):
            found = evidence(small.scene, said, chain)
            self.assertIs(type(found), tuple)
            if holds(small.scene, said, chain):
                self.assertTrue(all(type(ring) is tuple for ring in found))
                self.assertIs(is_circle(small.scene, said, chain, found), True)
                self.assertTrue(small.is_circle(said, chain, found))
            else:
                self.assertTrue(all(type(world) is int for world in found))
                self.assertIs(is_path(small.scene, said, chain, found), True)
                self.assertTrue(small.is_path(said, chain, found))

    def test_with_8_worlds(self):
        people = {"ann": (0, 0, 1, 1, 2, 2, 3, 3), "bob": (0, 1, 1, 2, 2, 3, 3, 0)}
        chain = ("ann", "bob", "ann")
        scene = Scene(8, 0, people, -Claim(8, 3), {"less": (-Claim(8, 2), 9)}, [(chain, True)])
        self.assertEqual(evidence(scene, (), chain), (0, 1, 2, 3))
        found = evidence(scene, ("less",), chain)
        self.assertIs(is_circle(scene, ("less",), chain, found), True)
        self.assertIs(is_circle(scene, (), chain, found), False)

    def test_never_both(self):
        for small, said, chain in small_cases(20):
            if len(chain) > 2:
                continue
            worlds = range(small.count)
            rings = [ring for size in worlds for ring in combinations(worlds, size + 1)]
            paths = [found for found in product(worlds, repeat=len(chain) + 1)
                     if is_path(small.scene, said, chain, found)]
            self.assertIs(paths == [], holds(small.scene, said, chain))
            if len(chain) == 1:
                circles = [found for found in product(rings, repeat=2) if is_circle(small.scene, said, chain, found)]
                self.assertIs(circles != [], holds(small.scene, said, chain))


class Paths(unittest.TestCase):
    def test_all_tuples_of_worlds_of_small_scenes(self):
        for small, said, chain in small_cases(16):
            if small.count ** len(chain) > 64:
                continue
            for found in product(range(small.count), repeat=len(chain) + 1):
                self.assertIs(is_path(small.scene, said, chain, found), small.is_path(said, chain, found))

    def test_changed_in_one_place(self):
        told = []
        for small, said, chain in small_cases(40):
            found = evidence(small.scene, said, chain)
            if not holds(small.scene, said, chain):
                for changed in changed_path(found, small.count):
                    told.append(is_path(small.scene, said, chain, changed))
                    self.assertIs(told[-1], small.is_path(said, chain, changed))
        self.assertGreater(min(told.count(True), told.count(False)), 1000)

    def test_each_condition(self):
        people = {"ann": (0, 0, 0, 1), "bob": (0, 1, 1, 1)}
        scene = Scene(4, 0, people, Claim(4, 0, 1), {"few": (-Claim(4, 1), 1)}, [(("ann",), True)])
        chain = ("ann", "bob")
        self.assertIs(is_path(scene, (), chain, (0, 1, 2)), True)
        self.assertIs(is_path(scene, (), chain, (0, 1, 3)), True)
        refused = ((1, 1, 2), (0, 3, 3), (0, 0, 2), (0, 0, 0), (0, 1, 1), (0, 1), (0, 1, 2, 2), (0,), ())
        for found in refused:
            self.assertIs(is_path(scene, (), chain, found), False)
        self.assertIs(is_path(scene, ("few",), chain, (0, 1, 2)), False)
        self.assertIs(is_path(scene, ("few",), chain, (0, 2, 2)), True)

    def test_what_is_no_tuple_of_worlds(self):
        values = [
            [3, 1], "31", b"31", {3: 1}, range(2), 3, None, True, (3, 4), (3, -1), (3, 10 ** 30), (3, True), (False, 1),
            (3, None), (3, "1"), (3, (1,)), (3, [1]), ((3,), (1,)), (3, 1, 1, 1, 9), (9,), (True,), (3, Touchy()),
        ]
        values += [value for value in other_kinds() if not isinstance(value, tuple)]
        for value in values:
            with self.subTest(kind=type(value)), self.assertRaises(BadWorlds):
                is_path(example(), (), ("ann",), value)
        for value in other_kinds():
            with self.subTest(kind=type(value)), self.assertRaises(BadWorlds):
                is_path(example(), (), ("ann",), (3, value))
            with self.subTest(kind=type(value)), self.assertRaises(BadWorlds):
                is_path(example(), (), ("ann",), (value, 3))

    def test_worlds_of_the_scene_that_do_not_remain_are_no_error(self):
        self.assertIs(is_path(example(), ("odd",), ("bob",), (3, 2)), False)
        self.assertIs(is_path(example(), ("odd",), ("bob",), (0, 2)), False)


class Circles(unittest.TestCase):
    def test_changed_in_one_place(self):
        told = []
        for small, said, chain in small_cases(25):
            found = evidence(small.scene, said, chain)
            if holds(small.scene, said, chain):
                for changed in changed_circle(found, small.count):
                    told.append(is_circle(small.scene, said, chain, changed))
                    self.assertIs(told[-1], small.is_circle(said, chain, changed))
        self.assertGreater(min(told.count(True), told.count(False)), 1000)

    def test_rings_where_the_chain_does_not_hold(self):
        for small, said, chain in small_cases(60):
            if not holds(small.scene, said, chain):
                everything = (tuple(small.left(said)),) * (len(chain) + 1)
                self.assertIs(is_circle(small.scene, said, chain, everything), False)
                facts = tuple(world for world in small.left(said) if world in small.fact)
                self.assertIs(is_circle(small.scene, said, chain, everything[1:] + (facts,)), False)

    def test_each_condition(self):
        people = {"ann": (0, 0, 1, 1, 2), "bob": (0, 1, 1, 2, 3)}
        scene = Scene(5, 0, people, Claim(5, 0, 1, 2, 4), {"few": (-Claim(5, 4), 1)}, [(("ann",), True)])
        chain = ("ann", "bob")
        accepted = (
            ((0,), (0, 1), (0, 1, 2)),
            ((0,), (0, 1, 4), (0, 1, 2, 4)),
            ((0, 4), (0, 1, 4), (0, 1, 2, 4)),
            ((0,), (0, 1), (0, 1, 2, 4)),
        )
        for found in accepted:
            self.assertIs(is_circle(scene, (), chain, found), True)
        refused = (
            ((), (0, 1), (0, 1, 2)),
            ((4,), (4,), (4,)),
            ((1,), (0, 1), (0, 1, 2)),
            ((0,), (0,), (0, 1, 2)),
            ((0,), (1,), (0, 1, 2)),
            ((0,), (0, 1), (0, 1)),
            ((0,), (0, 1), (0, 1, 2, 3)),
            ((0,), (0, 1, 4), (0, 1, 2)),
            ((0, 4), (0, 1), (0, 1, 2)),
            ((0, 3), (0, 1, 2, 3), (0, 1, 2, 3)),
            ((0,), (1, 0), (0, 1, 2)),
            ((0,), (0, 1), (0, 2, 1)),
            ((0,), (0, 1, 1), (0, 1, 2)),
            ((0, 0), (0, 1), (0, 1, 2)),
            ((0,), (0, 1)),
            ((0,), (0, 1), (0, 1, 2), (0, 1, 2)),
            ((0,),),
            (),
            ((), (), ()),
        )
        for found in refused:
            self.assertIs(is_circle(scene, (), chain, found), False)

    def test_further_worlds_only_among_those_that_remain(self):
        people = {"ann": (0, 1, 2), "bob": (0, 1, 2)}
        scene = Scene(3, 0, people, Claim.sure(3), {"few": (Claim(3, 0, 1), 1)}, [(("ann",), True)])
        for place in range(3):
            for extra in (1, 2):
                found = tuple((0,) + (extra,) * (at >= place) for at in range(3))
                self.assertIs(is_circle(scene, (), ("ann", "bob"), found), True)
                self.assertIs(is_circle(scene, ("few",), ("ann", "bob"), found), extra == 1)

    def test_what_is_no_tuple_of_tuples_of_worlds(self):
        values = [
            [(3,), (3,)], ([3], [3]), ((3,), [3]), ([3], (3,)), ((3,), 3), (3, 1), "33", ((3,), "3"), ((3,), {3}),
            ((3,), (4,)), ((3,), (-1,)), ((3,), (True,)), ((False,), (3,)), ((3,), (3, True)), ((3,), (None,)),
            ((3,), ("3",)), ((3,), ((3,),)), ((3,), (3,), (3,), (9,)), ((9,),), ((10 ** 30,),), ((3,), (Touchy(),)), 3,
            None, True, ((3,), True), {(3,): (3,)},
        ]
        values += [value for value in other_kinds() if not isinstance(value, tuple)]
        for value in values:
            with self.subTest(kind=type(value)), self.assertRaises(BadWorlds):
                is_circle(example(), ("odd",), ("ann",), value)
        for value in other_kinds():
            with self.subTest(kind=type(value)), self.assertRaises(BadWorlds):
                is_circle(example(), ("odd",), ("ann",), ((3,), (value,)))
            if not isinstance(value, tuple):
                with self.subTest(kind=type(value)), self.assertRaises(BadWorlds):
                    is_circle(example(), ("odd",), ("ann",), ((3,), value))


class Refused(unittest.TestCase):
    def test_the_error_documented_first(self):
        for call in (is_circle, is_path):
            for wrong in (None, True, [3], Touchy(), 3):
                with self.assertRaises(BadScene):
                    call(wrong, wrong, wrong, wrong)
                with self.assertRaises(BadScene):
                    call(wrong, (), ("ann",), wrong)
                with self.assertRaises(BadSet):
                    call(example(), wrong, wrong, wrong)
                with self.assertRaises(BadSet):
                    call(example(), wrong, ("ann",), wrong)
                with self.assertRaises(BadChain):
                    call(example(), (), wrong, wrong)
                with self.assertRaises(BadWorlds):
                    call(example(), (), ("ann",), wrong)

    def test_the_worlds_are_checked_before_the_answer_is_sought(self):
        with self.assertRaises(BadWorlds):
            is_path(example(), ("odd",), ("bob",), (0, 1, 2, 4))
        with self.assertRaises(BadWorlds):
            is_circle(example(), ("odd",), ("ann",), ((0,), (1,), (2,), (4,)))


if __name__ == "__main__":
    unittest.main()
