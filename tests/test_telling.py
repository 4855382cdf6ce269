"""Point 7: the order of sets, the cheapest one, and its evidence, with the section tellsome/telling.py."""

import unittest
from itertools import permutations

from tellsome.errors import BadScene, BadSet
from tellsome.knowing import is_circle, is_path
from tellsome.scenes import Claim, Scene
from tellsome.telling import NoTelling, Telling, cheapest, good_sets, set_cost
from tests.made import Small, Touchy, example, other_kinds, telling_scenes

# Ann confuses all worlds; each sentence leaves the real one and one part of the others.
ROW = {"ann": (0, 0, 0, 0)}


def aimed_cases():
    """Small scenes in which something must be said to meet all goals."""
    return [
        *telling_scenes(60, worlds=8, sentences=4, costs=9, goals=2),
        *telling_scenes(60, worlds=8, sentences=5, costs=2, goals=3),
        *telling_scenes(30, worlds=6, sentences=3, costs=3, goals=1),
        *telling_scenes(20, worlds=8, sentences=6, costs=3, goals=6),
    ]


def loose_cases():
    """Small scenes, most of which have no set that meets all goals."""
    for start in range(120):
        yield Small(start, sentences=4, costs=2, goals=2)
        yield Small(start, sentences=3, costs=3, goals=1)
    for start in range(20):
        yield Small(start, sentences=6, costs=2, goals=6)


def priced(*claims, goals=((("ann",), True),), fact=(0,), **costs):
    """A scene of 4 worlds, the first one real, in which Ann sees nothing, with sentences a, b, c .. of these costs."""
    names = list(costs)
    sentences = {name: (Claim(4, *worlds), costs[name]) for name, worlds in zip(names, claims, strict=True)}
    return Scene(4, 0, ROW, Claim(4, *fact), sentences, goals)


class Cheapest(unittest.TestCase):
    def check(self, small, found):
        """Whether an answer is the one of point 7."""
        said = small.cheapest()
        if said is None:
            self.assertIs(type(found), NoTelling)
            sets = small.sets()
        else:
            self.assertIs(type(found), Telling)
            self.assertEqual(found.said, said)
            sets = [other for other in small.sets() if small.cost(other) < small.cost(said)]
            self.check_reasons(small, found)
        self.assertEqual(list(found.doubts), sets)
        for other, doubt in found.doubts.items():
            self.check_doubt(small, other, doubt)
        self.assertIs(found.shows(small.scene), True)

    def check_reasons(self, small, found):
        self.assertIs(type(found.reasons), list)
        self.assertEqual(len(found.reasons), len(small.goals))
        for (chain, wanted), reason in zip(small.goals, found.reasons):
            self.assertIs(type(reason), tuple)
            accepts = is_circle if wanted else is_path
            self.assertIs(accepts(small.scene, found.said, chain, reason), True)
        self.assertTrue(small.are_reasons(found.said, found.reasons))

    def check_doubt(self, small, said, doubt):
        self.assertEqual([type(doubt), len(doubt), type(doubt[0]), type(doubt[1])], [tuple, 2, int, tuple])
        index, found = doubt
        self.assertIn(index, range(len(small.goals)))
        self.assertIs(small.meets(said)[index], False)
        chain, wanted = small.goals[index]
        accepts = is_path if wanted else is_circle
        self.assertIs(accepts(small.scene, said, chain, found), True)
        self.assertTrue(small.is_doubt(said, *doubt))

    def test_small_scenes_where_something_must_be_said(self):
        sizes = []
        for small in aimed_cases():
            self.check(small, cheapest(small.scene))
            sizes.append(len(small.cheapest()))
        self.assertGreater(sizes.count(1), 100)
        self.assertGreater(sizes.count(2) + sizes.count(3), 10)

    def test_small_scenes_with_and_without_a_good_set(self):
        none = []
        for small in loose_cases():
            self.check(small, cheapest(small.scene))
            none.append(small.cheapest() is None)
        self.assertGreater(min(none.count(True), none.count(False)), 40)

    def test_ties_of_cost_among_small_scenes(self):
        ties = 0
        for small in telling_scenes(100, worlds=6, sentences=5, costs=2, goals=3):
            said = small.cheapest()
            equal = [other for other in small.sets() if small.is_good(other) and small.cost(other) == small.cost(said)]
            ties += len(equal) > 1
            self.assertEqual(cheapest(small.scene).said, equal[0])
        self.assertGreater(ties, 20)


class Chosen(unittest.TestCase):
    def test_the_cost_counts_before_the_number_of_sentences(self):
        scene = priced((0,), (0, 1), (0, 2), a=3, b=1, c=1)
        self.assertEqual(good_sets(scene)[0], ("a",))
        self.assertEqual(cheapest(scene).said, ("b", "c"))

    def test_of_equal_costs_the_fewer_sentences(self):
        scene = priced((0, 1), (0, 2), (0,), a=1, b=1, c=2)
        self.assertEqual(cheapest(scene).said, ("c",))

    def test_of_equal_costs_and_sizes_the_first_in_the_order_of_the_scene(self):
        scene = priced((0, 1), (0, 2), (0, 3), (0, 2), a=1, b=1, c=1, d=1)
        self.assertEqual(good_sets(scene)[:5], [("a", "b"), ("a", "c"), ("a", "d"), ("b", "c"), ("c", "d")])
        self.assertEqual(cheapest(scene).said, ("a", "b"))
        for names in permutations(("z", "a", "m")):
            scene = priced((0,), (0,), (0,), **{name: 1 for name in names})
            self.assertEqual(cheapest(scene).said, names[:1])

    def test_lists_of_indices_not_names_or_costs(self):
        scene = priced((0, 1), (0, 2), (0, 3), (0, 1), a=3, b=1, c=3, d=1)
        self.assertEqual(cheapest(scene).said, ("b", "d"))
        scene = priced((0, 1), (0, 2), (0, 2), (0, 1), z=1, y=2, b=2, a=1)
        self.assertEqual(cheapest(scene).said, ("z", "y"))
        scene = priced((0, 3), (0, 2), (0, 2), (0, 1), z=2, y=2, b=1, a=1)
        self.assertEqual(cheapest(scene).said, ("b", "a"))

    def test_nothing_is_said_if_that_meets_all_goals(self):
        scene = priced((0,), a=1, goals=[(("ann",), False)])
        self.assertEqual(cheapest(scene), Telling((), [(0, 1)], {}))
        self.assertIs(cheapest(scene).shows(scene), True)

    def test_saying_more_can_spoil_it(self):
        people = {"ann": (0, 0, 1), "bob": (0, 1, 0)}
        sentences = {"all": (Claim(3, 0), 1), "some": (Claim(3, 0, 2), 2)}
        scene = Scene(3, 0, people, Claim(3, 0), sentences, [(("ann",), True), (("bob",), False)])
        found = cheapest(scene)
        self.assertEqual([found.said, found.reasons], [("some",), [((0,), (0,)), (0, 2)]])
        self.assertEqual(found.doubts, {(): (0, (0, 1)), ("all",): (1, ((0,), (0,)))})

    def test_no_sentence(self):
        scene = priced()
        self.assertEqual(cheapest(scene), NoTelling({(): (0, (0, 1))}))
        scene = priced(fact=(0, 1, 2, 3))
        self.assertEqual([cheapest(scene).said, cheapest(scene).doubts], [(), {}])

    def test_six_sentences_all_of_which_are_needed(self):
        claims = [[world for world in range(8) if world != out] for out in range(1, 7)]
        sentences = {name: (Claim(8, *worlds), 9) for name, worlds in zip("fedcba", claims)}
        scene = Scene(8, 0, {"ann": (0,) * 7 + (1,)}, Claim(8, 0), sentences, [(("ann",) * 3, True)] * 6)
        found = cheapest(scene)
        self.assertEqual([found.said, set_cost(scene, found.said)], [tuple("fedcba"), 54])
        self.assertEqual([len(found.reasons), len(found.doubts)], [6, 63])
        sizes = [len(said) for said in found.doubts]
        self.assertEqual(sizes, sorted(sizes))
        self.assertIs(found.shows(scene), True)

    def test_no_good_set_among_those_of_six_sentences(self):
        sentences = {name: (Claim(4, 0, 1), 1) for name in "abcdef"}
        scene = Scene(4, 0, ROW, Claim(4, 0), sentences, [(("ann",), True)])
        found = cheapest(scene)
        self.assertIs(type(found), NoTelling)
        self.assertEqual([len(found.doubts), list(found.doubts)[0], list(found.doubts)[-1]], [64, (), tuple("abcdef")])
        self.assertIs(found.shows(scene), True)

    def test_goals_that_contradict_each_other(self):
        scene = priced((0,), a=1, goals=[(("ann",), True), (("ann",), False)])
        found = cheapest(scene)
        self.assertIs(type(found), NoTelling)
        self.assertEqual([found.doubts[()][0], found.doubts[("a",)][0]], [0, 1])

    def test_a_sentence_that_tells_nothing_is_not_said(self):
        scene = priced((0, 1, 2, 3), (0,), a=1, b=5)
        self.assertEqual(cheapest(scene).said, ("b",))
        self.assertEqual(list(cheapest(scene).doubts), [(), ("a",)])


class Costs(unittest.TestCase):
    def test_the_sum_of_the_costs(self):
        scene = example()
        self.assertEqual([set_cost(scene, said) for said in ((), ("odd",), ("some",), ("odd", "some"))], [0, 2, 1, 3])
        self.assertIs(type(set_cost(scene, ())), int)

    def test_small_scenes(self):
        for start in range(100):
            small = Small(start, sentences=6)
            for said in small.sets():
                self.assertEqual(set_cost(small.scene, said), small.cost(said))


class Answers(unittest.TestCase):
    def test_attributes_are_set_and_copied(self):
        reasons, doubts = [((3,), (3,))], {(): (0, (3, 2))}
        found, none = Telling(("odd",), reasons, doubts), NoTelling(doubts)
        reasons.append(())
        reasons[0] = ()
        doubts[("some",)] = (0, ())
        doubts[()] = (1, ())
        self.assertEqual(vars(found), {"said": ("odd",), "reasons": [((3,), (3,))], "doubts": {(): (0, (3, 2))}})
        self.assertEqual(vars(none), {"doubts": {(): (0, (3, 2))}})
        self.assertEqual([type(found.reasons), type(found.doubts), type(none.doubts)], [list, dict, dict])

    def test_the_copies_can_be_changed_without_the_arguments(self):
        reasons, doubts = [(3, 2)], {(): (0, (3, 2))}
        found, none = Telling((), reasons, doubts), NoTelling(doubts)
        found.reasons.clear()
        found.doubts.clear()
        none.doubts[("odd",)] = (0, ())
        self.assertEqual([reasons, doubts], [[(3, 2)], {(): (0, (3, 2))}])

    def test_the_order_of_doubts_is_kept(self):
        doubts = {("some",): (0, (3, 2)), (): (0, (3, 1)), ("odd",): (0, (3,))}
        self.assertEqual(list(Telling((), [], doubts).doubts), list(doubts))
        self.assertEqual(list(NoTelling(doubts).doubts), list(doubts))

    def test_equal_if_all_attributes_are(self):
        self.assertIs(cheapest(example()) == cheapest(example()), True)
        self.assertIs(cheapest(example()) != cheapest(example()), False)
        self.assertIs(NoTelling({(): (0, (3,))}) == NoTelling({(): (0, (3,))}), True)

    def test_not_equal_if_one_attribute_differs(self):
        doubts = {(): (0, (3, 2))}
        found = Telling((), [(3, 2)], doubts)
        others = (
            Telling(("odd",), [(3, 2)], doubts), Telling((), [(3, 1)], doubts), Telling((), [], doubts),
            Telling((), [(3, 2)], {}), Telling((), [(3, 2)], {(): (1, (3, 2))}), NoTelling(doubts), None, doubts,
        )
        for other in others:
            self.assertIs(found == other, False)
            self.assertIs(found != other, True)
        for other in (NoTelling({}), NoTelling({(): (0, (3, 1))}), NoTelling({**doubts, ("odd",): (0, (3,))}), found):
            self.assertIs(NoTelling(doubts) == other, False)
            self.assertIs(NoTelling(doubts) != other, True)

    def test_the_current_attributes_count(self):
        scene = example()
        found = cheapest(scene)
        self.assertIs(found.shows(scene), True)
        kept = found.reasons[0]
        found.reasons[0] = (3, 2)
        self.assertIs(found.shows(scene), False)
        found.reasons[0] = kept
        self.assertIs(found.shows(scene), True)
        found.said = ("odd", "some")
        self.assertIs(found.shows(scene), False)
        found.said = ("odd",)
        self.assertIs(found.shows(scene), True)
        found.doubts = {}
        self.assertIs(found.shows(scene), False)
        other = Telling(("odd",), [], {})
        self.assertNotEqual(other, cheapest(scene))
        other.reasons, other.doubts = cheapest(scene).reasons, cheapest(scene).doubts
        self.assertEqual(other, cheapest(scene))

    def test_asking_changes_nothing(self):
        for scene in (example(), example(sentences={})):
            found = cheapest(scene)
            found.shows(scene)
            self.assertEqual([found, scene], [cheapest(scene), example(sentences=sentences_of(scene))])


def sentences_of(scene):
    """The sentences of a scene as its argument."""
    return {name: (scene[name], scene.cost(name)) for name in scene.names}


def changed_proofs(small, found):
    """A circle or path, changed in one place or of the other kind."""
    yield from ((), ((),), (small.real,), ((small.real,),))
    yield (small.real,) * len(found)
    yield ((small.real,),) * len(found)
    yield (tuple(range(small.count)),) * len(found)
    yield found + found[-1:]
    yield found[1:]
    for place, part in enumerate(found):
        if type(part) is tuple:
            changes = [part[1:], part[:-1], part[::-1], part + part[-1:], tuple(range(small.count)), ()]
            changes += [tuple(sorted({*part, world})) for world in range(small.count)]
        else:
            changes = range(small.count)
        for change in changes:
            yield found[:place] + (change,) + found[place + 1:]


def exchanged(items, place, item):
    """A list or dict with another item at one place, as a new one."""
    if isinstance(items, dict):
        return {key: item if key == place else items[key] for key in items}
    return [item if at == place else kept for at, kept in enumerate(items)]


class Changed(unittest.TestCase):
    """Whether shows tells right and wrong answers apart, compared with a plain reading of point 7."""

    def setUp(self):
        self.told = []

    def compare(self, small, said, reasons, doubts):
        answer = NoTelling(doubts) if said is None else Telling(said, reasons, doubts)
        expected = small.is_answer(said, reasons, doubts)
        self.assertIs(answer.shows(small.scene), expected)
        self.told.append(expected)

    def enough(self, many):
        self.assertGreater(min(self.told.count(True), self.told.count(False)), many)

    def answers(self):
        yield from telling_scenes(25, worlds=6, sentences=4, costs=2, goals=2)
        for start in range(25):
            yield Small(start, sentences=3, costs=3, goals=3)

    def asked(self):
        """Each small scene with its answer."""
        for small in self.answers():
            found = cheapest(small.scene)
            if type(found) is NoTelling:
                yield small, None, None, found.doubts
            else:
                yield small, found.said, found.reasons, found.doubts

    def test_one_reason(self):
        for small, said, reasons, doubts in self.asked():
            for place, found in enumerate(reasons or ()):
                for other in changed_proofs(small, found):
                    self.compare(small, said, exchanged(reasons, place, other), doubts)
        self.enough(30)

    def test_one_doubt(self):
        for small, said, reasons, doubts in self.asked():
            for one, (index, found) in doubts.items():
                for other in changed_proofs(small, found):
                    self.compare(small, said, reasons, exchanged(doubts, one, (index, other)))
        self.enough(100)

    def test_an_index(self):
        for small, said, reasons, doubts in self.asked():
            for one, (_, found) in doubts.items():
                for index in range(len(small.goals)):
                    self.compare(small, said, reasons, exchanged(doubts, one, (index, found)))
        self.enough(30)

    def test_the_evidence_of_another_goal(self):
        for small, said, reasons, doubts in self.asked():
            for one in doubts:
                for index, (chain, wanted) in enumerate(small.goals):
                    found = (small.real,) * (len(chain) + 1) if wanted else ((small.real,),) * (len(chain) + 1)
                    self.compare(small, said, reasons, exchanged(doubts, one, (index, found)))
        self.assertIn(False, self.told)

    def test_the_keys_of_doubts(self):
        for small, said, reasons, doubts in self.asked():
            self.compare(small, said, reasons, doubts)
            for one in doubts:
                self.compare(small, said, reasons, {key: doubts[key] for key in doubts if key != one})
            for more in small.sets():
                for proof in ((small.real, small.real), ((small.real,), (small.real,))):
                    if more not in doubts:
                        self.compare(small, said, reasons, {**doubts, more: (0, proof)})
                        # As many keys as before, but not the same ones.
                        self.compare(small, said, reasons, {**dict(list(doubts.items())[1:]), more: (0, proof)})
        self.enough(30)

    def test_the_order_of_doubts(self):
        many = 0
        for small, said, reasons, doubts in self.asked():
            backwards = {one: doubts[one] for one in reversed(list(doubts))}
            many += list(backwards) != list(doubts)
            answer = NoTelling(backwards) if said is None else Telling(said, reasons, backwards)
            self.assertIs(answer.shows(small.scene), True)
            self.assertEqual(answer, cheapest(small.scene))
        self.assertGreater(many, 10)

    def test_another_set(self):
        for small, said, reasons, doubts in self.asked():
            if said is not None:
                for other in small.sets():
                    self.compare(small, other, reasons, doubts)
        self.enough(10)

    def test_another_set_of_the_same_least_cost_with_its_own_reasons(self):
        scene = priced((0, 1), (0, 2, 3), (0, 2), (0, 1, 3), (0, 3), a=1, b=1, c=1, d=1, e=2)
        found = cheapest(scene)
        self.assertEqual(found.said, ("a", "b"))
        same = [said for said in good_sets(scene) if set_cost(scene, said) == 2]
        self.assertEqual(same, [("a", "b"), ("a", "c"), ("c", "d")])
        for said in same:
            own = Telling(said, [((0,), (0,))], found.doubts)
            self.assertIs(own.shows(scene), True)
        for said in (("b", "c"), ("a", "e"), ("a",), (), ("c", "e"), ("a", "b", "c")):
            self.assertIs(Telling(said, [((0,), (0,))], found.doubts).shows(scene), False)

    def test_a_good_set_that_is_not_cheapest(self):
        scene = priced((0,), (0,), a=1, b=2)
        reasons = [((0,), (0,))]
        self.assertIs(Telling(("a",), reasons, {(): (0, (0, 1))}).shows(scene), True)
        for doubt in ((0, (0, 1)), (0, (0, 0)), (0, ((0,), (0,)))):
            self.assertIs(Telling(("b",), reasons, {(): (0, (0, 1)), ("a",): doubt}).shows(scene), False)
        self.assertIs(Telling(("b",), reasons, {(): (0, (0, 1))}).shows(scene), False)

    def test_any_reasons_and_doubts(self):
        scene = priced((0, 1), (0,), a=1, b=3, goals=[(("ann",), True), (("ann", "ann"), True)], fact=(0,))
        reasons = [((0,), (0,)), ((0,), (0,), (0,))]
        for doubts in (
            {(): (0, (0, 1)), ("a",): (0, (0, 1))},
            {(): (1, (0, 3, 2)), ("a",): (1, (0, 0, 1))},
            {("a",): (1, (0, 1, 1)), (): (0, (0, 3))},
        ):
            self.assertIs(Telling(("b",), reasons, doubts).shows(scene), True)
        self.assertIs(Telling(("b",), reasons, {(): (0, (0, 1)), ("a",): (0, (0, 2))}).shows(scene), False)
        self.assertIs(Telling(("b",), reasons, {(): (1, (0, 1)), ("a",): (0, (0, 1))}).shows(scene), False)

    def test_as_many_reasons_as_goals(self):
        scene = example()
        found = cheapest(scene)
        for reasons in ([], found.reasons[:1], found.reasons[1:], found.reasons + found.reasons[-1:],
                        found.reasons[::-1]):
            self.assertIs(Telling(found.said, reasons, found.doubts).shows(scene), False)

    def test_no_telling_needs_doubts_about_all_sets(self):
        scene = priced((0, 1), (0, 2, 1), a=1, b=1)
        path = (0, (0, 1))
        doubts = {(): path, ("a",): path, ("b",): path, ("a", "b"): path}
        self.assertEqual(cheapest(scene), NoTelling(doubts))
        self.assertIs(NoTelling(doubts).shows(scene), True)
        for said in doubts:
            self.assertIs(NoTelling({key: path for key in doubts if key != said}).shows(scene), False)
        self.assertIs(NoTelling({}).shows(scene), False)
        self.assertIs(NoTelling(doubts).shows(priced((0, 1), (0,), a=1, b=1)), False)

    def test_an_index_that_is_none(self):
        scene = example(goals=[(("bob",), False), (("ann",), True)])
        found = cheapest(scene)
        self.assertEqual(found.doubts[()][0], 1)
        path = found.doubts[()][1]
        for index in (2, -1, True, 10 ** 30, 0):
            doubts = exchanged(found.doubts, (), (index, path))
            self.assertIs(Telling(found.said, found.reasons, doubts).shows(scene), False)

    def test_the_answer_for_another_scene(self):
        scene = example()
        found = cheapest(scene)
        others = (
            example(fact=Claim(4, 1, 3)), example(real=1, sentences={"odd": (Claim(4, 1, 3), 2)}),
            example(goals=[(("ann",), True), (("bob",), True)]), example(goals=[(("ann",), False), (("bob",), False)]),
            example(sentences={"odd": (Claim(4, 1, 3), 1), "some": (-Claim(4, 0), 1)}),
            example(sentences={"odd": (Claim(4, 1, 3), 2)}),
        )
        for other in others:
            self.assertIs(found.shows(other), False)
        self.assertIs(found.shows(example()), True)


class Refused(unittest.TestCase):
    def scenes(self):
        return [value for value in other_kinds() if not isinstance(value, Scene)] + ["odd", 4, Scene]

    def test_scenes(self):
        found = cheapest(example())
        calls = (
            cheapest, good_sets, lambda scene: set_cost(scene, ()), found.shows, NoTelling({}).shows,
            lambda scene: Telling((), [], {}).shows(scene), lambda scene: set_cost(scene, ["odd"]),
        )
        for call in calls:
            for value in self.scenes():
                with self.subTest(kind=type(value)), self.assertRaises(BadScene) as caught:
                    call(value)
                self.assertIsNone(caught.exception.part)
        self.assertEqual(found, cheapest(example()))

    def test_sets(self):
        wrong = [
            ["odd"], ["odd", "some"], ("some", "odd"), ("odd", "odd"), ("even",), ("odd", "even"), "odd", {"odd"},
            {"odd": 1}, ("Odd",), (True,), (0,), ("odd", Touchy()), (("odd",),),
        ]
        wrong += [value for value in other_kinds() if not (isinstance(value, tuple) and len(value) == 0)]
        for value in wrong:
            with self.subTest(kind=type(value)), self.assertRaises(BadSet):
                set_cost(example(), value)

    def test_the_error_documented_first(self):
        for value in (None, True, ["odd"], Touchy()):
            with self.assertRaises(BadScene):
                set_cost(value, value)


if __name__ == "__main__":
    unittest.main()
