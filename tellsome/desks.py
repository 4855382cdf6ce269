"""A desk, on which sentences of a scene are said one by one, and taken back."""

from tellsome.errors import BadName, NothingSaid, SaidBefore
from tellsome.kinds import is_one_of
from tellsome.knowing import holds, unmet_goals
from tellsome.scenes import check_scene
from tellsome.telling import set_cost


class Desk:
    """A scene, and the sentences that have been said."""

    def __init__(self, scene):
        check_scene(scene)
        self._scene = scene
        self._steps = []

    @classmethod
    def after(cls, scene, said):
        """A desk on which the sentences of a set have been said, in order."""
        desk = cls(scene)
        scene.check_set(said)
        for name in said:
            desk.say(name)
        return desk

    @property
    def so_far(self):
        """The set of the sentences that have been said."""
        return self._scene.in_order(self._steps)

    @property
    def left(self):
        """The worlds that remain."""
        return self._scene.remaining(self.so_far)

    @property
    def spent(self):
        """The cost of the set."""
        return set_cost(self._scene, self.so_far)

    @property
    def unmet(self):
        """The indices of the goals that the set does not meet."""
        return unmet_goals(self._scene, self.so_far)

    def say(self, name):
        """Says a sentence; the worlds that remain then."""
        if name not in self._scene:
            raise BadName("not the name of a sentence")
        if name in self._steps:
            raise SaidBefore("this sentence has been said")
        self._steps.append(name)
        return self.left

    def undo(self):
        """Undoes the last step; the name of its sentence."""
        if len(self._steps) == 0:
            raise NothingSaid("there is no step")
        return self._steps.pop()

    def helpful(self):
        """The names of the sentences after which fewer goals would be unmet."""
        scene = self._scene
        many = len(self.unmet)
        sets = [(name, scene.in_order([*self._steps, name])) for name in scene.names]
        # All are found before the first one is given: the desk may be changed before the next one is requested.
        names = [name for name, said in sets if len(unmet_goals(scene, said)) < many]
        yield from names

    def __contains__(self, x):
        if not is_one_of(x, self._scene.people):
            raise BadName("not the name of a person")
        return holds(self._scene, self.so_far, (x,))

    def __len__(self):
        return len(self.left)

    def __bool__(self):
        return not self.unmet
