"""The examples of the interface, word for word."""

import unittest

from tellsome import errors

SCENES = """
>>> from tellsome.scenes import Claim, Scene
>>> people = {'ann': (0, 0, 1, 1), 'bob': (0, 1, 0, 1)}
>>> sentences = {'odd': (Claim(4, 1, 3), 2), 'some': (-Claim(4, 0), 1)}
>>> scene = Scene(4, 3, people, Claim(4, 3), sentences, [(('ann',), True), (('bob',), False)])
>>> [scene(()), scene(('odd',)), scene(('odd', 'some')), 'odd' in scene, len(scene), scene['some'] == Claim(4, 3, 1, 2), 2 in scene.fact]
[(0, 1, 2, 3), (1, 3), (1, 3), True, 2, True, False]
"""

KNOWING = """
>>> from tellsome.knowing import holds, is_circle, is_path, meets
>>> from tellsome.scenes import Claim, Scene
>>> people = {'ann': (0, 0, 1, 1), 'bob': (0, 1, 0, 1)}
>>> sentences = {'odd': (Claim(4, 1, 3), 2), 'some': (-Claim(4, 0), 1)}
>>> scene = Scene(4, 3, people, Claim(4, 3), sentences, [(('ann',), True), (('bob',), False)])
>>> [holds(scene, ('odd',), ('ann',)), holds(scene, ('odd',), ('bob',)), is_circle(scene, ('odd',), ('ann',), ((3,), (3,))), is_path(scene, ('odd',), ('bob',), (3, 1)), is_path(scene, ('odd',), ('ann', 'bob'), (3, 3, 1)), meets(scene, ())]
[True, False, True, True, True, [False, True]]
"""

TELLING = """
>>> from tellsome.scenes import Claim, Scene
>>> from tellsome.telling import cheapest, good_sets
>>> people = {'ann': (0, 0, 1, 1), 'bob': (0, 1, 0, 1)}
>>> sentences = {'odd': (Claim(4, 1, 3), 2), 'some': (-Claim(4, 0), 1)}
>>> scene = Scene(4, 3, people, Claim(4, 3), sentences, [(('ann',), True), (('bob',), False)])
>>> found = cheapest(scene)
>>> [found.said, found.reasons, found.shows(scene), good_sets(scene)]
[('odd',), [((3,), (3,)), (3, 1)], True, [('odd',), ('odd', 'some')]]
"""

TOGETHER = """
>>> from tellsome.scenes import Claim, Scene
>>> from tellsome.together import dialogue, horizon, is_common
>>> people = {'ann': (0, 0, 1, 1), 'bob': (0, 1, 0, 1)}
>>> sentences = {'odd': (Claim(4, 1, 3), 2), 'some': (-Claim(4, 0), 1)}
>>> scene = Scene(4, 3, people, Claim(4, 3), sentences, [(('ann',), True), (('bob',), False)])
>>> [horizon(scene, (), ('ann',)), horizon(scene, ('odd',), ('ann', 'bob')), is_common(scene, ('odd',), ('ann',)), dialogue(scene, (), ('ann', 'bob', 'ann'))]
[(2, 3), (1, 3), True, [(False, (0, 1, 2, 3)), (False, (0, 1, 2, 3)), (False, (0, 1, 2, 3))]]
"""

MORE_TOGETHER = """
>>> from tellsome.scenes import Claim, Scene
>>> from tellsome.together import dialogue
>>> scene = Scene(3, 0, {'ann': (0, 0, 1), 'bob': (0, 1, 1)}, Claim(3, 0), {}, [(('ann',), True)])
>>> dialogue(scene, (), ['ann', 'bob', 'ann'])
[(False, (0, 1, 2)), (True, (0,)), (True, (0,))]
"""

DESKS = """
>>> from tellsome.scenes import Claim, Scene
>>> from tellsome.desks import Desk
>>> people = {'ann': (0, 0, 1, 1), 'bob': (0, 1, 0, 1)}
>>> sentences = {'odd': (Claim(4, 1, 3), 2), 'some': (-Claim(4, 0), 1)}
>>> scene = Scene(4, 3, people, Claim(4, 3), sentences, [(('ann',), True), (('bob',), False)])
>>> desk = Desk(scene)
>>> [desk.unmet, list(desk.helpful()), desk.say('some'), desk.unmet, desk.say('odd'), 'ann' in desk, desk.so_far, desk.spent, bool(desk), desk.undo(), len(desk)]
[[0], ['odd'], (1, 2, 3), [0], (1, 3), True, ('odd', 'some'), 3, True, 'odd', 3]
"""

TEXTS = r"""
>>> from tellsome.texts import read_scene, scene_text
>>> text = 'worlds 3 1\nperson ann 0 0 1\nfact 1 2\nsentence odd 2 1\ngoal ann ann no\n'
>>> [scene_text(read_scene(text)) == text, read_scene(text).goals]
[True, [(('ann', 'ann'), False)]]
"""

MORE_TEXTS = r"""
>>> from tellsome.texts import read_scene
>>> read_scene('worlds 3 1\nperson ann 0 0 4\n')
raises BadText(row=1)
"""


def run_example(text):
    """A call that gives the last step of an example as Python shows its value, and the line that is expected."""
    *lines, expected = text.strip().split("\n")
    steps = [line.removeprefix(">>> ") for line in lines]
    names = {}
    for step in steps[:-1]:
        exec(step, names)
    return (lambda: repr(eval(steps[-1], names))), expected


class Examples(unittest.TestCase):
    def check(self, text):
        call, expected = run_example(text)
        self.assertEqual(call(), expected)

    def test_scenes(self):
        self.check(SCENES)

    def test_knowing(self):
        self.check(KNOWING)

    def test_telling(self):
        self.check(TELLING)

    def test_together(self):
        self.check(TOGETHER)
        self.check(MORE_TOGETHER)

    def test_desks(self):
        self.check(DESKS)

    def test_texts(self):
        self.check(TEXTS)

    def test_texts_that_are_refused(self):
        call, expected = run_example(MORE_TEXTS)
        self.assertEqual(expected, "raises BadText(row=1)")
        with self.assertRaises(errors.BadText) as caught:
            call()
        self.assertEqual(vars(caught.exception), {"row": 1})


if __name__ == "__main__":
    unittest.main()
