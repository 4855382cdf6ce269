"""The cheapest sentences that meet all goals, with reasons for them and doubts about all that is cheaper."""

from tellsome.errors import BadWorlds
from tellsome.kinds import is_number
from tellsome.knowing import evidence, is_circle, is_path, unmet_goals
from tellsome.scenes import check_scene


class Telling:
    """A cheapest set that meets all goals, reasons why it does, and doubts about the sets that cost less."""

    def __init__(self, said, reasons, doubts):
        self.said = said
        self.reasons = list(reasons)
        self.doubts = {one: doubts[one] for one in doubts}

    def shows(self, scene):
        """Whether this is an answer for a scene, be the set the first one or not."""
        check_scene(scene)
        cheaper = cheaper_sets(scene, set_cost(scene, self.said))
        return are_reasons(scene, self.said, self.reasons) and are_doubts(scene, cheaper, self.doubts)

    def __eq__(self, other):
        return (
            isinstance(other, Telling)
            and self.said == other.said
            and self.reasons == other.reasons
            and self.doubts == other.doubts
        )


class NoTelling:
    """No set meets all goals: doubts about all of them."""

    def __init__(self, doubts):
        self.doubts = {one: doubts[one] for one in doubts}

    def shows(self, scene):
        """Whether this is an answer for a scene."""
        check_scene(scene)
        return are_doubts(scene, all_sets(scene), self.doubts)

    def __eq__(self, other):
        return isinstance(other, NoTelling) and self.doubts == other.doubts


def cheapest(scene):
    """The first of the cheapest sets that meet all goals, or that there is none, with evidence."""
    good = good_sets(scene)
    if len(good) == 0:
        return NoTelling(doubts_about(scene, all_sets(scene)))
    least = min([set_cost(scene, said) for said in good])
    first = [said for said in good if set_cost(scene, said) == least][0]
    reasons = [evidence(scene, first, chain) for chain, _ in scene.goals]
    return Telling(first, reasons, doubts_about(scene, cheaper_sets(scene, least)))


def good_sets(scene):
    """The sets that meet all goals."""
    check_scene(scene)
    return [said for said in all_sets(scene) if len(unmet_goals(scene, said)) == 0]


def breaches(scene):
    """The pairs of a good set and one with one more sentence that is not good."""
    good = good_sets(scene)
    return [(said, more) for said, more in extensions(scene) if said in good and more not in good]


def rescues(scene):
    """The pairs of a set that is not good and one with one more sentence that is."""
    good = good_sets(scene)
    return [(said, more) for said, more in extensions(scene) if said not in good and more in good]


def set_cost(scene, said):
    """The cost of saying a set."""
    check_scene(scene)
    scene.check_set(said)
    return sum([scene.cost(name) for name in said])


def all_sets(scene):
    """All sets, ordered by the number of their sentences, then as lists of indices."""
    names = scene.names
    return [said for size in range(len(names) + 1) for said in sets_of(names, size)]


def sets_of(names, size):
    """The sets with a number of these sentences, ordered as lists of indices."""
    if size == 0:
        return [()]
    return [(names[k], *rest) for k in range(len(names)) for rest in sets_of(names[k + 1:], size - 1)]


def cheaper_sets(scene, cost):
    """The sets that cost less than this."""
    return [said for said in all_sets(scene) if set_cost(scene, said) < cost]


def extensions(scene):
    """The pairs of a set and one that has one more sentence, by the first one, then by the second one."""
    # Of two sets with one more sentence, the one with the earlier sentence comes first in the order of all sets.
    return [
        (said, scene.in_order([*said, name])) for said in all_sets(scene) for name in scene.names if name not in said
    ]


def doubts_about(scene, sets):
    """For each of some sets that are not good, a goal that it does not meet, with evidence."""
    return {said: doubt_about(scene, said) for said in sets}


def doubt_about(scene, said):
    """The first goal that a set does not meet, with evidence."""
    index = unmet_goals(scene, said)[0]
    chain, _ = scene.goals[index]
    return index, evidence(scene, said, chain)


def are_reasons(scene, said, reasons):
    """Whether these tell for each goal, in order, that a set meets it."""
    goals = scene.goals
    shown = [is_proof(scene, said, chain, wanted, found) for (chain, wanted), found in zip(goals, reasons)]
    return len(reasons) == len(goals) and all(shown)


def are_doubts(scene, sets, doubts):
    """Whether these tell of exactly these sets, in any order, a goal that is not met."""
    shown = [said in doubts and is_doubt(scene, said, doubts[said]) for said in sets]
    return len(doubts) == len(sets) and all(shown)


def is_doubt(scene, said, doubt):
    """Whether this is the index of a goal, with evidence that a set does not meet it."""
    index, found = doubt
    if not is_number(index, 0, len(scene.goals) - 1):
        return False
    chain, wanted = scene.goals[index]
    return is_proof(scene, said, chain, not wanted, found)


def is_proof(scene, said, chain, known, found):
    """Whether this proves that a chain holds, as a circle, or that it does not, as a path."""
    try:
        if known:
            return is_circle(scene, said, chain, found)
        return is_path(scene, said, chain, found)
    except BadWorlds:
        # It is a path in the place of a circle, or the other way round.
        return False
