"""Who knows the fact, or that others know it, if sentences are said, with circles and paths as evidence."""

from tellsome.errors import BadChain, BadWorlds
from tellsome.kinds import are_numbers, is_chain
from tellsome.scenes import check_scene


def holds(scene, said, chain):
    """Whether a chain holds in the real world if a set is said."""
    left = worlds_left(scene, said, chain)
    return is_fact_in(scene, smallest_circle(scene, left, chain)[-1])


def evidence(scene, said, chain):
    """A circle if a chain holds in the real world when a set is said, otherwise a path."""
    left = worlds_left(scene, said, chain)
    rings = smallest_circle(scene, left, chain)
    if is_fact_in(scene, rings[-1]):
        return rings
    return path_through(scene, rings, chain)


def meets(scene, said):
    """For each goal, whether a set meets it."""
    check_scene(scene)
    left = scene.remaining(said)
    met = []
    for chain, wanted in scene.goals:
        known = is_fact_in(scene, smallest_circle(scene, left, chain)[-1])
        met.append(known == wanted)
    return met


def is_circle(scene, said, chain, found):
    """Whether a tuple of tuples of worlds is a circle for a set and a chain."""
    left = worlds_left(scene, said, chain)
    last = scene.fact.total - 1
    if not isinstance(found, tuple) or not all([are_numbers(ring, 0, last) for ring in found]):
        raise BadWorlds("not a tuple of tuples of worlds of the scene")
    if len(found) != len(chain) + 1 or not all([is_ring(ring, left) for ring in found]):
        return False
    closed = [
        has_all(ring, confused(scene, left, person, before))
        for person, before, ring in zip(chain, found, found[1:])
    ]
    return scene.actual in found[0] and all(closed) and is_fact_in(scene, found[-1])


def is_path(scene, said, chain, found):
    """Whether a tuple of worlds is a path for a set and a chain."""
    left = worlds_left(scene, said, chain)
    if not are_numbers(found, 0, scene.fact.total - 1):
        raise BadWorlds("not a tuple of worlds of the scene")
    if len(found) != len(chain) + 1 or not has_all(left, found):
        return False
    linked = [
        scene.sees(person, before) == scene.sees(person, world)
        for person, before, world in zip(chain, found, found[1:])
    ]
    return found[0] == scene.actual and all(linked) and found[-1] not in scene.fact


def unmet_goals(scene, said):
    """The indices of the goals that a set does not meet."""
    return [index for index, met in enumerate(meets(scene, said)) if not met]


def worlds_left(scene, said, chain):
    """The worlds that remain if a set is said, after all three arguments have been checked."""
    check_scene(scene)
    left = scene.remaining(said)
    if not is_chain(chain, scene.people):
        raise BadChain("not a tuple of 1 to 3 names of people")
    return left


def confused(scene, left, person, worlds):
    """The remaining worlds that a person confuses with some of these worlds."""
    seen = [scene.sees(person, world) for world in worlds]
    return tuple([world for world in left if scene.sees(person, world) in seen])


def smallest_circle(scene, left, chain):
    """The rings of worlds that a chain reaches; they are a circle if the fact is true in all of the last one."""
    rings = [(scene.actual,)]
    for person in chain:
        rings.append(confused(scene, left, person, rings[-1]))
    return tuple(rings)


def path_through(scene, rings, chain):
    """A path through the rings that a chain reaches, to the first world of the last one without the fact."""
    wrong = [world for world in rings[-1] if world not in scene.fact]
    path = [wrong[0]]
    # Each world of a ring is confused with one of the ring before it, so the way back is never a dead end.
    for place in reversed(range(len(chain))):
        path = [confused(scene, rings[place], chain[place], (path[0],))[0], *path]
    return tuple(path)


def is_ring(worlds, left):
    """Whether worlds are ascending, different and among those that remain."""
    return list(worlds) == sorted(set(worlds)) and has_all(left, worlds)


def has_all(worlds, others):
    """Whether all of the other worlds are among some worlds."""
    return all([world in worlds for world in others])


def is_fact_in(scene, worlds):
    """Whether the fact is true in all of these worlds."""
    return all([world in scene.fact for world in worlds])
