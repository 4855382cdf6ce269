"""Point 2, and the class Claim of the section tellsome/scenes.py of the interface."""

import unittest
from itertools import combinations, permutations

from tellsome.errors import BadClaim
from tellsome.scenes import Claim
from tests.made import other_kinds


def all_claims(count):
    return [Claim(count, *worlds) for size in range(count + 1) for worlds in combinations(range(count), size)]


class Making(unittest.TestCase):
    def test_numbers_of_worlds_from_1_to_8(self):
        for count in range(1, 9):
            self.assertEqual(Claim(count).total, count)
            self.assertIs(type(Claim(count).total), int)

    def test_numbers_of_worlds_beyond_the_bounds(self):
        for count in (0, 9, -1, 10 ** 30, -10 ** 30):
            with self.subTest(count=count), self.assertRaises(BadClaim):
                Claim(count)
            with self.subTest(count=count), self.assertRaises(BadClaim):
                Claim(count, 0)

    def test_worlds_are_ascending_whatever_their_order(self):
        for worlds in permutations((0, 2, 3, 7)):
            self.assertEqual(Claim(8, *worlds).worlds, (0, 2, 3, 7))

    def test_worlds_may_be_none_or_all(self):
        self.assertEqual(Claim(1).worlds, ())
        self.assertEqual(Claim(8).worlds, ())
        self.assertEqual(Claim(1, 0).worlds, (0,))
        self.assertEqual(Claim(8, 7, 6, 5, 4, 3, 2, 1, 0).worlds, (0, 1, 2, 3, 4, 5, 6, 7))

    def test_worlds_are_a_tuple(self):
        self.assertIs(type(Claim(3).worlds), tuple)
        self.assertIs(type(Claim(3, 1).worlds), tuple)

    def test_worlds_that_are_not_indices(self):
        for count, world in ((1, 1), (4, 4), (4, -1), (8, 8), (8, 10 ** 30), (8, -8)):
            with self.subTest(count=count, world=world), self.assertRaises(BadClaim):
                Claim(count, world)
            with self.subTest(count=count, world=world), self.assertRaises(BadClaim):
                Claim(count, 0, world)
            with self.subTest(count=count, world=world), self.assertRaises(BadClaim):
                Claim(count, world, 0)

    def test_worlds_that_are_not_different(self):
        for worlds in ((0, 0), (3, 1, 3), (1, 2, 2), (2, 2, 1)):
            with self.subTest(worlds=worlds), self.assertRaises(BadClaim):
                Claim(4, *worlds)

    def test_booleans_are_no_integers(self):
        for arguments in ((True,), (True, 0), (4, True), (4, False), (4, 2, True), (4, False, 1), (2, 0, True)):
            with self.subTest(arguments=arguments), self.assertRaises(BadClaim):
                Claim(*arguments)

    def test_values_of_other_kinds(self):
        for value in other_kinds():
            for arguments in ((value,), (value, 0), (4, value), (4, 0, value), (4, value, value), (value, value)):
                with self.subTest(kind=type(value)), self.assertRaises(BadClaim):
                    Claim(*arguments)

    def test_worlds_as_a_list_or_tuple(self):
        for worlds in ([1, 2], (1, 2), [], ()):
            with self.subTest(worlds=worlds), self.assertRaises(BadClaim):
                Claim(4, worlds)


class Sure(unittest.TestCase):
    def test_true_in_all_worlds(self):
        for count in range(1, 9):
            claim = Claim.sure(count)
            self.assertIs(type(claim), Claim)
            self.assertEqual(claim.total, count)
            self.assertEqual(claim.worlds, tuple(range(count)))

    def test_beyond_the_bounds(self):
        for count in (0, 9, -1, 10 ** 30):
            with self.subTest(count=count), self.assertRaises(BadClaim):
                Claim.sure(count)

    def test_values_of_other_kinds(self):
        for value in other_kinds():
            with self.subTest(kind=type(value)), self.assertRaises(BadClaim):
                Claim.sure(value)


class Operators(unittest.TestCase):
    def test_and_or_minus_by_their_worlds(self):
        for count in (1, 2, 3):
            for one in all_claims(count):
                denied = -one
                self.assertEqual(denied.total, count)
                self.assertEqual(denied.worlds, tuple(sorted(set(range(count)) - set(one.worlds))))
                for other in all_claims(count):
                    both = one & other
                    either = one | other
                    self.assertEqual((both.total, either.total), (count, count))
                    self.assertEqual(both.worlds, tuple(sorted(set(one.worlds) & set(other.worlds))))
                    self.assertEqual(either.worlds, tuple(sorted(set(one.worlds) | set(other.worlds))))

    def test_with_8_worlds(self):
        self.assertEqual((Claim(8, 0, 7, 3) & Claim(8, 7, 1, 0)).worlds, (0, 7))
        self.assertEqual((Claim(8, 0, 7, 3) | Claim(8, 7, 1, 0)).worlds, (0, 1, 3, 7))
        self.assertEqual((-Claim(8, 0, 7, 3)).worlds, (1, 2, 4, 5, 6))

    def test_results_are_claims_and_operands_stay(self):
        one, other = Claim(4, 0, 1), Claim(4, 1, 2)
        for made in (one & other, one | other, -one):
            self.assertIs(type(made), Claim)
        self.assertEqual([one.worlds, other.worlds], [(0, 1), (1, 2)])
        kept = one
        one &= other
        self.assertEqual([kept.worlds, one.worlds], [(0, 1), (1,)])
        one |= other
        self.assertEqual([kept.worlds, one.worlds, other.worlds], [(0, 1), (1, 2), (1, 2)])

    def test_other_numbers_of_worlds(self):
        for one, other in ((Claim(4, 1), Claim(3, 1)), (Claim(3, 1), Claim(4, 1)), (Claim(1), Claim(8))):
            with self.assertRaises(BadClaim):
                one & other
            with self.assertRaises(BadClaim):
                one | other

    def test_values_of_other_kinds(self):
        for value in other_kinds() + [(1, 2), [1, 2], 4, "odd"]:
            with self.subTest(kind=type(value)), self.assertRaises(BadClaim):
                Claim(4, 1) & value
            with self.subTest(kind=type(value)), self.assertRaises(BadClaim):
                Claim(4, 1) | value


class Asking(unittest.TestCase):
    def test_in(self):
        for claim in all_claims(3):
            for world in range(3):
                self.assertIs(world in claim, world in claim.worlds)

    def test_in_with_8_worlds(self):
        self.assertEqual([world in Claim(8, 0, 7) for world in range(8)], [True] + [False] * 6 + [True])

    def test_in_with_no_world_of_the_claim(self):
        for count, world in ((1, 1), (4, 4), (4, -1), (8, 8), (4, 10 ** 30), (4, True), (4, False), (1, False)):
            with self.subTest(count=count, world=world), self.assertRaises(BadClaim):
                world in Claim.sure(count)
            with self.subTest(count=count, world=world), self.assertRaises(BadClaim):
                world in Claim(count)

    def test_in_with_values_of_other_kinds(self):
        for value in other_kinds():
            with self.subTest(kind=type(value)), self.assertRaises(BadClaim):
                value in Claim(4, 1)

    def test_len_and_truth(self):
        for claim in all_claims(4):
            self.assertEqual(len(claim), len(claim.worlds))
            self.assertIs(bool(claim), claim.worlds != ())
        self.assertEqual([len(Claim(8)), len(Claim.sure(8)), len(Claim(1, 0))], [0, 8, 1])

    def test_equal_if_numbers_and_worlds_are(self):
        claims = all_claims(1) + all_claims(2) + all_claims(3)
        for at, one in enumerate(claims):
            for place, other in enumerate(claims):
                self.assertIs(one == other, at == place)
                self.assertIs(one != other, at != place)
        self.assertEqual(Claim(4, 3, 1), Claim(4, 1, 3))
        self.assertNotEqual(Claim(4, 3, 1), Claim(5, 1, 3))

    def test_not_equal_to_other_kinds(self):
        for value in (None, 4, (1, 3), [1, 3], "odd", (4, (1, 3)), object()):
            self.assertFalse(Claim(4, 1, 3) == value)
            self.assertTrue(Claim(4, 1, 3) != value)


class Lasting(unittest.TestCase):
    def test_properties_cannot_be_assigned(self):
        claim = Claim(4, 1, 3)
        for name, value in (("total", 5), ("worlds", (0,))):
            with self.assertRaises(AttributeError):
                setattr(claim, name, value)
        self.assertEqual([claim.total, claim.worlds], [4, (1, 3)])

    def test_a_refused_call_changes_nothing(self):
        claim = Claim(4, 1, 3)
        for refused in (lambda: claim & Claim(3), lambda: claim | 2, lambda: True in claim, lambda: 4 in claim):
            with self.assertRaises(BadClaim):
                refused()
        self.assertEqual(claim, Claim(4, 1, 3))


class Defined(unittest.TestCase):
    def test_in_its_file_and_in_the_class_itself(self):
        self.assertEqual(Claim.__module__, "tellsome.scenes")
        for name in ("__init__", "__and__", "__or__", "__neg__", "__contains__", "__len__", "__eq__", "sure"):
            self.assertIn(name, vars(Claim))
        for name in ("total", "worlds"):
            self.assertIsInstance(vars(Claim)[name], property)
        self.assertIsInstance(vars(Claim)["sure"], classmethod)


if __name__ == "__main__":
    unittest.main()
