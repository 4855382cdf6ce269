"""What several people know together: horizons, common facts, and dialogues."""

from tellsome.errors import BadGroup
from tellsome.kinds import is_one_of
from tellsome.knowing import confused, is_fact_in
from tellsome.scenes import check_scene


def horizon(scene, said, group):
    """The worlds that a group reaches from the real one if a set is said."""
    check_scene(scene)
    left = scene.remaining(said)
    if not is_group(group, scene.people):
        raise BadGroup("not a tuple of different names of people in the order of the scene")
    reached = (scene.actual,)
    # Each round is one more step, and nothing is further away than there are worlds.
    for _ in left:
        reached = one_step(scene, left, group, reached)
    return reached


def is_common(scene, said, group):
    """Whether the fact is common to a group if a set is said."""
    return is_fact_in(scene, horizon(scene, said, group))


def dialogue(scene, said, speakers):
    """For each speaker, whether they know the fact, and the worlds that remain after they have said so."""
    check_scene(scene)
    left = scene.remaining(said)
    if not are_speakers(speakers, scene.people):
        raise BadGroup("not a list or tuple of at most 20 names of people")
    turns = []
    for speaker in speakers:
        known = knows(scene, left, speaker, scene.actual)
        left = tuple([world for world in left if knows(scene, left, speaker, world) == known])
        turns.append((known, left))
    return turns


def is_group(value, people):
    """Whether a value is a tuple of one or more different names of these people, in their order."""
    if not isinstance(value, tuple) or not all([is_one_of(name, people) for name in value]):
        return False
    return len(value) > 0 and list(value) == [name for name in people if name in value]


def are_speakers(value, people):
    """Whether a value is a list or tuple of at most 20 names of these people."""
    if not isinstance(value, (list, tuple)) or len(value) > 20:
        return False
    return all([is_one_of(name, people) for name in value])


def one_step(scene, left, group, worlds):
    """The remaining worlds that somebody of a group confuses with some of these worlds."""
    rings = [confused(scene, left, person, worlds) for person in group]
    return tuple([world for world in left if any([world in ring for ring in rings])])


def knows(scene, left, person, world):
    """Whether a person knows the fact in a world that remains."""
    return is_fact_in(scene, confused(scene, left, person, (world,)))
