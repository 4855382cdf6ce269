"""Point 1: arguments are neither modified nor kept, scenes and claims never change, what is returned is new."""

import unittest

from tellsome.desks import Desk
from tellsome.errors import TellError
from tellsome.knowing import evidence, holds, is_circle, is_path, meets
from tellsome.scenes import Claim, Scene
from tellsome.telling import NoTelling, Telling, breaches, cheapest, good_sets, rescues, set_cost
from tellsome.texts import read_scene, scene_text
from tellsome.together import dialogue, horizon, is_common
from tests.made import Small, example, parts


class Arguments(unittest.TestCase):
    def test_a_scene_does_not_keep_its_arguments(self):
        given = parts()
        scene = Scene(**given)
        given["people"]["cy"] = (0, 0, 0, 0)
        given["people"]["ann"] = (3, 3, 3, 3)
        del given["people"]["bob"]
        given["sentences"]["more"] = (Claim(4, 3), 9)
        given["sentences"]["odd"] = (Claim(4, 3), 9)
        del given["sentences"]["some"]
        given["goals"].append((("cy",), True))
        given["goals"][0] = (("bob",), True)
        self.assertEqual(scene, example())
        self.assertEqual(scene.people, ["ann", "bob"])
        self.assertEqual([scene["odd"], scene.cost("odd"), scene.names], [Claim(4, 1, 3), 2, ["odd", "some"]])
        self.assertEqual(scene.goals, [(("ann",), True), (("bob",), False)])
        self.assertEqual([holds(scene, ("odd",), ("ann",)), meets(scene, ())], [True, [False, True]])

    def test_a_scene_does_not_modify_its_arguments(self):
        given = parts()
        Scene(**given)
        plain = parts()
        self.assertEqual(given, plain)
        for name in ("people", "sentences"):
            self.assertEqual(list(given[name].items()), list(plain[name].items()))

    def test_a_refused_scene_does_not_modify_its_arguments(self):
        given = parts(goals=[(("ann",), True), (("cy",), True)])
        with self.assertRaises(TellError):
            Scene(**given)
        self.assertEqual(given, parts(goals=[(("ann",), True), (("cy",), True)]))

    def test_a_claim_does_not_keep_a_list(self):
        worlds = [3, 1]
        claim = Claim(4, *worlds)
        worlds.append(2)
        self.assertEqual(claim.worlds, (1, 3))

    def test_answers_do_not_keep_their_arguments(self):
        scene = example()
        plain = cheapest(scene)
        reasons, doubts = list(plain.reasons), dict(plain.doubts)
        found, none = Telling(plain.said, reasons, doubts), NoTelling(doubts)
        self.assertEqual([reasons, list(doubts.items())], [plain.reasons, list(plain.doubts.items())])
        reasons[0] = (3, 2)
        reasons.append((3, 1))
        doubts[()] = (1, (3, 1))
        del doubts[("some",)]
        self.assertEqual([found, found.shows(scene)], [plain, True])
        self.assertEqual(none, NoTelling(plain.doubts))

    def test_speakers_are_neither_modified_nor_kept(self):
        scene = example()
        speakers = ["bob", "ann", "bob"]
        turns = dialogue(scene, ("odd",), speakers)
        kept = list(turns)
        self.assertEqual(speakers, ["bob", "ann", "bob"])
        speakers[0] = "cy"
        speakers.clear()
        self.assertEqual(turns, kept)
        self.assertEqual(dialogue(scene, ("odd",), ("bob", "ann", "bob")), kept)

    def test_a_desk_keeps_its_scene_as_it_is(self):
        given = parts()
        scene = Scene(**given)
        desk = Desk.after(scene, ("odd",))
        given["people"].clear()
        given["sentences"].clear()
        given["goals"].clear()
        self.assertEqual([desk.so_far, desk.unmet, "ann" in desk, desk.say("some")], [("odd",), [], True, (1, 3)])
        self.assertEqual(scene, example())


class Returned(unittest.TestCase):
    def test_lists_are_new(self):
        scene = example()
        breach = example(goals=[(("ann",), False)])
        desk = Desk(scene)
        asked = (
            lambda: scene.people,
            lambda: scene.names,
            lambda: scene.goals,
            lambda: meets(scene, ()),
            lambda: good_sets(scene),
            lambda: rescues(scene),
            lambda: breaches(breach),
            lambda: cheapest(scene).reasons,
            lambda: dialogue(scene, (), ["ann", "bob"]),
            lambda: desk.unmet,
        )
        for ask in asked:
            first, kept = ask(), list(ask())
            first.append("cy")
            first[0] = "dot"
            self.assertEqual(ask(), kept)
            ask().clear()
            self.assertEqual(ask(), kept)
            self.assertIsNot(ask(), ask())
        self.assertEqual(scene, example())

    def test_dicts_are_new(self):
        good, bad = example(), example(sentences={})
        for scene in (good, bad):
            first, kept = cheapest(scene).doubts, list(cheapest(scene).doubts.items())
            first[("odd", "some")] = (0, ())
            first[()] = (1, ())
            self.assertEqual(list(cheapest(scene).doubts.items()), kept)
            cheapest(scene).doubts.clear()
            self.assertEqual(list(cheapest(scene).doubts.items()), kept)
            self.assertIs(cheapest(scene).shows(scene), True)

    def test_dicts_have_the_described_order(self):
        for start in range(60):
            small = Small(start, sentences=5, costs=2, goals=1)
            found = cheapest(small.scene)
            least = small.cost(small.cheapest()) if small.cheapest() is not None else 100
            self.assertEqual(list(found.doubts), [said for said in small.sets() if small.cost(said) < least])

    def test_the_same_call_returns_the_same(self):
        scene = example()
        calls = (
            lambda: scene(("odd",)),
            lambda: holds(scene, ("odd",), ("ann", "bob")),
            lambda: evidence(scene, ("odd",), ("ann", "bob")),
            lambda: meets(scene, ("some",)),
            lambda: is_circle(scene, ("odd",), ("ann",), ((3,), (3,))),
            lambda: is_path(scene, ("odd",), ("bob",), (3, 1)),
            lambda: cheapest(scene),
            lambda: [good_sets(scene), breaches(scene), rescues(scene), set_cost(scene, ("odd", "some"))],
            lambda: [horizon(scene, (), ("ann", "bob")), is_common(scene, (), ("ann", "bob"))],
            lambda: dialogue(scene, (), ["ann", "bob"]),
            lambda: list(Desk(scene).helpful()),
            lambda: scene_text(scene),
            lambda: read_scene(scene_text(scene)),
        )
        first = [call() for call in calls]
        self.assertEqual([call() for call in reversed(calls)], first[::-1])
        self.assertEqual([call() for call in calls], first)
        self.assertEqual(scene, example())


class Lasting(unittest.TestCase):
    def test_properties_of_a_scene_cannot_be_assigned(self):
        scene = example()
        changes = {"actual": 1, "fact": Claim(4), "people": [], "names": [], "goals": []}
        for name, value in changes.items():
            with self.assertRaises(AttributeError):
                setattr(scene, name, value)
        self.assertEqual(scene, example())

    def test_sentences_of_a_scene_cannot_be_assigned_or_removed(self):
        scene = example()
        with self.assertRaises(TypeError):
            scene["odd"] = Claim(4, 3)
        with self.assertRaises(TypeError):
            del scene["odd"]
        self.assertEqual(scene, example())

    def test_a_refused_call_changes_nothing(self):
        scene = example()
        refused = (
            lambda: scene["even"],
            lambda: scene.cost(True),
            lambda: scene(["odd"]),
            lambda: holds(scene, ("odd",), ["ann"]),
            lambda: evidence(scene, ("some", "odd"), ("ann",)),
            lambda: meets(scene, None),
            lambda: is_circle(scene, ("odd",), ("ann",), ((3,), (True,))),
            lambda: is_path(scene, ("odd",), ("bob",), [3, 1]),
            lambda: set_cost(scene, ["odd"]),
            lambda: horizon(scene, (), ("bob", "ann")),
            lambda: is_common(scene, (), ()),
            lambda: dialogue(scene, (), ["ann"] * 21),
            lambda: Desk.after(scene, ("some", "odd")),
            lambda: Desk(scene).say("even"),
            lambda: Desk(scene).undo(),
            lambda: read_scene(scene_text(scene) + "x"),
            lambda: cheapest(None),
            lambda: cheapest(scene).shows(None),
        )
        for call in refused:
            with self.assertRaises(TellError):
                call()
        self.assertEqual(scene, example())
        self.assertEqual(scene(("odd",)), (1, 3))

    def test_scenes_share_nothing_that_changes(self):
        given = parts()
        one, other = Scene(**given), Scene(**given)
        one.people.append("cy")
        one.goals.clear()
        self.assertEqual([other.people, len(other.goals)], [["ann", "bob"], 2])


if __name__ == "__main__":
    unittest.main()
