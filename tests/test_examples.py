"""The examples of the interface, word for word."""

import doctest
import unittest

SCENES = """\
>>> from tellsome.scenes import Claim, Scene
>>> people = {'ann': (0, 0, 1, 1), 'bob': (0, 1, 0, 1)}
>>> sentences = {'odd': (Claim(4, 1, 3), 2), 'some': (-Claim(4, 0), 1)}
>>> scene = Scene(4, 3, people, Claim(4, 3), sentences, [(('ann',), True), (('bob',), False)])
>>> [scene(()), scene(('odd',)), scene(('odd', 'some')), 'odd' in scene, len(scene), scene['some'] == Claim(4, 3, 1, 2), 2 in scene.fact]
[(0, 1, 2, 3), (1, 3), (1, 3), True, 2, True, False]
"""

KNOWING = """\
>>> from tellsome.knowing import holds, is_circle, is_path, meets
>>> from tellsome.scenes import Claim, Scene
>>> people = {'ann': (0, 0, 1, 1), 'bob': (0, 1, 0, 1)}
>>> sentences = {'odd': (Claim(4, 1, 3), 2), 'some': (-Claim(4, 0), 1)}
>>> scene = Scene(4, 3, people, Claim(4, 3), sentences, [(('ann',), True), (('bob',), False)])
>>> [holds(scene, ('odd',), ('ann',)), holds(scene, ('odd',), ('bob',)), is_circle(scene, ('odd',), ('ann',), ((3,), (3,))), is_path(scene, ('odd',), ('bob',), (3, 1)), is_path(scene, ('odd',), ('ann', 'bob'), (3, 3, 1)), meets(scene, ())]
[True, False, True, True, True, [False, True]]
"""


class Examples(unittest.TestCase):
    def run_example(self, text):
        example = doctest.DocTestParser().get_doctest(text, {}, "example", None, 0)
        told = []
        results = doctest.DocTestRunner(verbose=False).run(example, out=told.append)
        self.assertEqual((results.failed, "".join(told)), (0, ""))
        self.assertEqual(results.attempted, text.count(">>>"))

    def test_scenes(self):
        self.run_example(SCENES)

    def test_knowing(self):
        self.run_example(KNOWING)


if __name__ == "__main__":
    unittest.main()
