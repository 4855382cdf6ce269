"""Point 11: saying sentences one by one and taking them back, with the section tellsome/desks.py of the interface."""

import unittest
from itertools import permutations

from tellsome.desks import Desk
from tellsome.errors import BadName, BadScene, BadSet, NothingSaid, SaidBefore
from tellsome.knowing import holds, meets
from tellsome.scenes import Claim, Scene
from tests.made import Numbers, Small, Touchy, example, other_kinds, telling_scenes


def everything(desk, people):
    """All that a desk tells without a change."""
    return {
        "so_far": desk.so_far, "left": desk.left, "spent": desk.spent, "unmet": desk.unmet, "len": len(desk),
        "truth": bool(desk), "knowing": [name in desk for name in people], "helpful": list(desk.helpful()),
    }


def unmet(scene, said):
    return [index for index, met in enumerate(meets(scene, said)) if not met]


def expected(scene, said):
    """The same, as the scene and meets tell it of a set."""
    helping = []
    for name in scene.names:
        more = tuple(one for one in scene.names if one in said or one == name)
        if len(unmet(scene, more)) < len(unmet(scene, said)):
            helping.append(name)
    return {
        "so_far": said, "left": scene(said), "spent": sum(scene.cost(name) for name in said),
        "unmet": unmet(scene, said), "len": len(scene(said)), "truth": all(meets(scene, said)),
        "knowing": [holds(scene, said, (name,)) for name in scene.people], "helpful": helping,
    }


def several():
    """A scene with five sentences, the order of which is not alphabetical; ann knows the fact without world 1."""
    claims = {"out": (0, 2, 3), "all": (0, 1, 2, 3), "real": (0,), "two": (0, 2), "near": (0, 1)}
    sentences = {name: (Claim(4, *worlds), cost) for cost, (name, worlds) in enumerate(claims.items(), 1)}
    people = {"ann": (0, 0, 1, 1), "bob": (0, 1, 0, 1)}
    return Scene(4, 0, people, Claim(4, 0), sentences, [(("ann",), True), (("bob",), True)])


class DeskCase(unittest.TestCase):
    def check(self, desk, scene, said):
        """Whether a desk tells what the scene tells of a set of these sentences, in any order."""
        in_order = tuple(name for name in scene.names if name in said)
        self.assertEqual(everything(desk, scene.people), expected(scene, in_order))


class Steps(DeskCase):
    def walk(self, small, numbers, many):
        """A sequence of steps on a desk, each compared with the scene; how many were refused."""
        scene, desk, steps, refused = small.scene, Desk(small.scene), [], 0
        self.check(desk, scene, steps)
        for _ in range(many):
            if scene.names and numbers.below(3):
                name = scene.names[numbers.below(len(scene))]
                if name in steps:
                    refused += 1
                    with self.assertRaises(SaidBefore):
                        desk.say(name)
                else:
                    steps.append(name)
                    told = desk.say(name)
                    self.assertEqual(told, scene(tuple(one for one in scene.names if one in steps)))
            elif steps:
                self.assertEqual(desk.undo(), steps.pop())
            else:
                refused += 1
                with self.assertRaises(NothingSaid):
                    desk.undo()
            self.check(desk, scene, steps)
        return refused

    def test_small_scenes(self):
        refused = 0
        cases = [Small(start, sentences=4) for start in range(60)]
        cases += telling_scenes(30, worlds=6, sentences=5, goals=3)
        for start, small in enumerate(cases):
            refused += self.walk(small, Numbers(start), 12)
        self.assertGreater(refused, 50)

    def test_six_sentences(self):
        refused = 0
        for start in range(200):
            small = Small(start, worlds=8, sentences=6, goals=6)
            if len(small.scene) == 6:
                refused += self.walk(small, Numbers(start), 30)
        self.assertGreater(refused, 20)

    def test_the_last_step_is_undone_first_in_any_order_of_saying(self):
        scene = several()
        for steps in permutations(scene.names, 3):
            desk = Desk(scene)
            for name in steps:
                desk.say(name)
            self.assertEqual([desk.undo() for _ in steps], list(reversed(steps)))
            self.assertEqual(desk.so_far, ())

    def test_a_sentence_can_be_said_again_when_it_was_undone(self):
        desk = Desk(example())
        self.assertEqual([desk.say("odd"), desk.undo(), desk.say("odd"), desk.so_far], [(1, 3), "odd", (1, 3), ("odd",)])

    def test_all_is_undone(self):
        desk = Desk(example())
        before = everything(desk, ["ann", "bob"])
        desk.say("some")
        desk.say("odd")
        self.assertEqual([desk.undo(), desk.undo()], ["odd", "some"])
        self.assertEqual(everything(desk, ["ann", "bob"]), before)

    def test_the_set_is_in_the_order_of_the_scene(self):
        desk = Desk(several())
        self.assertEqual([desk.say("near"), desk.so_far], [(0, 1), ("near",)])
        self.assertEqual([desk.say("out"), desk.so_far, desk.spent], [(0,), ("out", "near"), 6])
        self.assertEqual([desk.say("all"), desk.so_far, desk.spent], [(0,), ("out", "all", "near"), 8])

    def test_a_new_desk(self):
        scene = example()
        self.assertEqual(everything(Desk(scene), scene.people), {
            "so_far": (), "left": (0, 1, 2, 3), "spent": 0, "unmet": [0], "len": 4, "truth": False,
            "knowing": [False, False], "helpful": ["odd"],
        })

    def test_no_sentence(self):
        desk = Desk(example(sentences={}))
        self.assertEqual([desk.so_far, desk.spent, list(desk.helpful()), len(desk)], [(), 0, [], 4])
        with self.assertRaises(NothingSaid):
            desk.undo()
        with self.assertRaises(BadName):
            desk.say("odd")

    def test_two_desks_share_nothing(self):
        scene = example()
        one, other = Desk(scene), Desk(scene)
        one.say("odd")
        self.assertEqual([one.so_far, other.so_far, other.left], [("odd",), (), (0, 1, 2, 3)])
        other.say("some")
        self.assertEqual([one.undo(), other.undo()], ["odd", "some"])

    def test_kinds(self):
        desk = Desk(example())
        kinds = [type(value) for value in (desk.so_far, desk.left, desk.spent, desk.unmet, desk.say("odd"), desk.undo())]
        self.assertEqual(kinds, [tuple, tuple, int, list, tuple, str])
        self.assertIs("ann" in desk, False)
        desk.say("odd")
        self.assertIs("ann" in desk, True)

    def test_properties_are_new_and_cannot_be_assigned(self):
        desk = Desk(example())
        desk.unmet.append(7)
        desk.unmet.clear()
        self.assertEqual(desk.unmet, [0])
        self.assertIsNot(desk.unmet, desk.unmet)
        for name in ("so_far", "left", "spent", "unmet"):
            with self.assertRaises(AttributeError):
                setattr(desk, name, ())
        self.check(desk, example(), ())

    def test_asking_changes_nothing(self):
        desk = Desk.after(example(), ("some",))
        first = everything(desk, ["ann", "bob"])
        self.assertEqual(everything(desk, ["ann", "bob"]), first)
        self.assertEqual(desk.undo(), "some")


class After(DeskCase):
    def test_after_each_set(self):
        for start in range(60):
            small = Small(start, sentences=4)
            for said in small.sets():
                desk = Desk.after(small.scene, said)
                self.assertIs(type(desk), Desk)
                self.check(desk, small.scene, said)
                self.assertEqual([desk.undo() for _ in said], list(reversed(said)))
                self.check(desk, small.scene, ())

    def test_said_in_the_order_of_the_scene(self):
        desk = Desk.after(several(), ("out", "real", "near"))
        self.assertEqual([desk.undo(), desk.so_far, desk.undo(), desk.undo()], ["near", ("out", "real"), "real", "out"])

    def test_more_can_be_said(self):
        desk = Desk.after(example(), ("some",))
        self.assertEqual([desk.say("odd"), desk.so_far, desk.undo(), desk.so_far],
                         [(1, 3), ("odd", "some"), "odd", ("some",)])
        with self.assertRaises(SaidBefore):
            desk.say("some")

    def test_refused(self):
        wrong = [value for value in other_kinds() if not isinstance(value, Scene)] + [Scene, "ann"]
        for value in wrong:
            for make in (Desk, lambda scene: Desk.after(scene, ()), lambda scene: Desk.after(scene, scene)):
                with self.subTest(kind=type(value)), self.assertRaises(BadScene) as caught:
                    make(value)
                self.assertIsNone(caught.exception.part)
        sets = [["odd"], ("some", "odd"), ("odd", "odd"), ("even",), ("odd", "even"), "odd", {"odd"}, ("ann",)]
        sets += [value for value in other_kinds() if not (isinstance(value, tuple) and len(value) == 0)]
        for said in sets:
            with self.subTest(kind=type(said)), self.assertRaises(BadSet):
                Desk.after(example(), said)


class Helpful(DeskCase):
    def test_fewer_goals_not_only_others(self):
        # Each sentence alone trades one unmet goal for another one; both together meet the first two.
        people = {"ann": (0, 0, 1), "bob": (0, 1, 0)}
        sentences = {"p": (Claim(3, 0, 2), 1), "q": (Claim(3, 0, 1), 1)}
        goals = [(("ann",), True), (("ann",), False)]
        scene = Scene(3, 0, people, Claim(3, 0), sentences, goals)
        self.assertEqual([Desk(scene).unmet, Desk.after(scene, ("p",)).unmet], [[0], [1]])
        self.assertEqual(list(Desk(scene).helpful()), [])
        scene = Scene(3, 0, people, Claim(3, 0), sentences, goals + [(("ann", "ann"), True), (("bob",), True)])
        desk = Desk(scene)
        self.assertEqual([desk.unmet, list(desk.helpful())], [[0, 2, 3], ["p", "q"]])
        desk.say("p")
        self.assertEqual([desk.unmet, list(desk.helpful())], [[1, 3], ["q"]])
        desk.say("q")
        self.assertEqual([desk.unmet, list(desk.helpful())], [[1], []])

    def test_in_the_order_of_the_scene(self):
        self.assertEqual(list(Desk(several()).helpful()), ["out", "real", "two", "near"])

    def test_a_sentence_that_was_said_is_not_helpful(self):
        desk = Desk(several())
        desk.say("two")
        self.assertEqual([desk.unmet, list(desk.helpful())], [[1], ["real", "near"]])

    def test_it_is_a_generator(self):
        found = Desk(several()).helpful()
        self.assertIs(iter(found), found)
        self.assertEqual(next(found), "out")
        self.assertTrue(hasattr(found, "send"))

    def test_for_the_set_when_the_first_one_is_requested(self):
        desk = Desk(several())
        early = desk.helpful()
        desk.say("two")
        self.assertEqual(next(early), "real")
        late = desk.helpful()
        desk.undo()
        self.assertEqual(list(late), ["out", "real", "two", "near"])
        self.assertEqual(list(early), ["near"])

    def test_the_desk_is_changed_between_two_requests(self):
        desk = Desk(several())
        found = desk.helpful()
        names = [next(found)]
        for name in ("real", "near"):
            desk.say(name)
            names.append(next(found))
        self.assertEqual([desk.undo(), desk.undo()], ["near", "real"])
        desk.say("out")
        self.assertEqual([*names, *found], ["out", "real", "two", "near"])

    def test_the_helpful_ones_are_said_while_they_are_listed(self):
        desk, heard = Desk(several()), []
        for name in desk.helpful():
            heard.append(name)
            desk.say(name)
        self.assertEqual([heard, desk.so_far], [["out", "real", "two", "near"], ("out", "real", "two", "near")])

    def test_two_at_once(self):
        desk = Desk(several())
        one, other = desk.helpful(), desk.helpful()
        pairs = [(next(one), next(other))]
        desk.say("real")
        pairs.extend(zip(one, other))
        self.assertEqual(pairs, [(name, name) for name in ("out", "real", "two", "near")])
        self.assertEqual(list(desk.helpful()), [])

    def test_a_generator_that_is_exhausted_stays_so(self):
        desk = Desk(example())
        found = desk.helpful()
        self.assertEqual([list(found), list(found)], [["odd"], []])
        desk.say("odd")
        desk.undo()
        self.assertEqual(list(found), [])


class Knowing(DeskCase):
    def test_who_knows_the_fact(self):
        desk = Desk(several())
        self.assertEqual(["ann" in desk, "bob" in desk, bool(desk)], [False, False, False])
        desk.say("two")
        self.assertEqual(["ann" in desk, "bob" in desk, bool(desk)], [True, False, False])
        desk.say("near")
        self.assertEqual(["ann" in desk, "bob" in desk, bool(desk), len(desk)], [True, True, True, 1])
        desk.undo()
        self.assertEqual(["ann" in desk, "bob" in desk, bool(desk)], [True, False, False])

    def test_truth_is_of_the_goals_not_of_the_number_of_worlds(self):
        desk = Desk(example(goals=[(("ann",), False)]))
        self.assertIs(bool(desk), True)
        desk.say("odd")
        self.assertIs(bool(desk), False)

    def test_not_the_name_of_a_person(self):
        desk = Desk(example())
        for value in ["odd", "an", "Ann", "", "cy", 0, 3, True, ("ann",), ["ann"], b"ann", Touchy(), *other_kinds()]:
            with self.subTest(kind=type(value)), self.assertRaises(BadName):
                value in desk
        self.check(desk, example(), ())

    def test_a_sentence_with_the_name_of_a_person(self):
        scene = example(sentences={"ann": (Claim(4, 1, 3), 1)})
        desk = Desk(scene)
        self.assertIs("ann" in desk, False)
        desk.say("ann")
        self.assertIs("ann" in desk, True)
        self.assertIs("bob" in desk, False)


class Refused(DeskCase):
    def test_not_the_name_of_a_sentence(self):
        desk = Desk.after(example(), ("some",))
        for value in ["ann", "od", "Odd", "", 0, True, ("odd",), ["odd"], b"odd", Touchy(), *other_kinds()]:
            with self.subTest(kind=type(value)), self.assertRaises(BadName):
                desk.say(value)
        self.check(desk, example(), ("some",))
        self.assertEqual(desk.undo(), "some")

    def test_said_before(self):
        desk = Desk(example())
        desk.say("odd")
        for _ in range(2):
            with self.assertRaises(SaidBefore):
                desk.say("odd")
        desk.say("some")
        for name in ("odd", "some"):
            with self.assertRaises(SaidBefore):
                desk.say(name)
        self.check(desk, example(), ("odd", "some"))
        self.assertEqual([desk.undo(), desk.undo()], ["some", "odd"])

    def test_nothing_said(self):
        desk = Desk(example())
        for _ in range(2):
            with self.assertRaises(NothingSaid):
                desk.undo()
        self.check(desk, example(), ())
        desk.say("odd")
        desk.undo()
        with self.assertRaises(NothingSaid):
            desk.undo()
        self.assertEqual([desk.say("some"), desk.undo()], [(1, 2, 3), "some"])

    def test_the_error_documented_first(self):
        for wrong in (None, True, ["odd"], Touchy()):
            with self.assertRaises(BadScene):
                Desk.after(wrong, wrong)
        with self.assertRaises(BadName):
            Desk(example()).say("even")


if __name__ == "__main__":
    unittest.main()
