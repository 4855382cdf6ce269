"""Claims, each with the worlds in which it is true, and scenes: who sees what, and what can be said."""

from tellsome.errors import BadClaim, BadName, BadScene, BadSet
from tellsome.kinds import are_numbers, is_chain, is_name, is_number, is_one_of


class Claim:
    """A number of worlds, and those of them in which the claim is true."""

    def __init__(self, count, *worlds):
        if not is_number(count, 1, 8):
            raise BadClaim("not a number of worlds from 1 to 8")
        if not are_numbers(worlds, 0, count - 1) or len(set(worlds)) != len(worlds):
            raise BadClaim("not different indices of the worlds")
        self._total = count
        self._worlds = tuple(sorted(worlds))

    @classmethod
    def sure(cls, count):
        """The claim that is true in all of a number of worlds."""
        return -cls(count)

    @property
    def total(self):
        """The number of worlds."""
        return self._total

    @property
    def worlds(self):
        """The worlds in which the claim is true, ascending."""
        return self._worlds

    def __and__(self, other):
        check_partner(other, self._total)
        both = [world for world in self._worlds if world in other._worlds]
        return Claim(self._total, *both)

    def __or__(self, other):
        check_partner(other, self._total)
        either = [world for world in range(self._total) if world in self._worlds or world in other._worlds]
        return Claim(self._total, *either)

    def __neg__(self):
        others = [world for world in range(self._total) if world not in self._worlds]
        return Claim(self._total, *others)

    def __contains__(self, x):
        if not is_number(x, 0, self._total - 1):
            raise BadClaim("not one of the worlds of the claim")
        return x in self._worlds

    def __len__(self):
        return len(self._worlds)

    def __eq__(self, other):
        return isinstance(other, Claim) and self._total == other._total and self._worlds == other._worlds


class Scene:
    """Worlds, people who see numbers in them, a fact, sentences with costs, and goals."""

    def __init__(self, count, real, people, fact, sentences, goals):
        if not are_world_and_count(real, count):
            raise BadScene("WORLDS")
        if not are_people(people, count):
            raise BadScene("PEOPLE")
        if not is_claim(fact, count):
            raise BadScene("FACT")
        if not are_sentences(sentences, count, real):
            raise BadScene("SENTENCES")
        if not are_goals(goals, people):
            raise BadScene("GOALS")
        self._count = count
        self._real = real
        self._sights = {name: people[name] for name in people}
        self._fact = fact
        self._sentences = {name: sentences[name] for name in sentences}
        self._goals = tuple(goals)

    @property
    def actual(self):
        """The real world."""
        return self._real

    @property
    def fact(self):
        """The claim that people should know, or not know."""
        return self._fact

    @property
    def people(self):
        """The names of the people."""
        return list(self._sights)

    @property
    def names(self):
        """The names of the sentences."""
        return list(self._sentences)

    @property
    def goals(self):
        """The goals, each a pair of a chain and a boolean."""
        return list(self._goals)

    def __getitem__(self, at):
        claim, _ = self._sentence(at)
        return claim

    def __iter__(self):
        raise TypeError("a scene is not iterated over")

    def cost(self, name):
        """The cost of saying a sentence."""
        _, cost = self._sentence(name)
        return cost

    def _sentence(self, name):
        if not is_one_of(name, self._sentences):
            raise BadName("not the name of a sentence")
        return self._sentences[name]

    def __contains__(self, x):
        return is_one_of(x, self._sentences)

    def __len__(self):
        return len(self._sentences)

    def __call__(self, said):
        return self.remaining(said)

    def remaining(self, said):
        """The worlds that remain if a set is said."""
        # What a property runs calls no object, so a desk asks by this name.
        self.check_set(said)
        claims = [self[name] for name in said]
        return tuple([world for world in range(self._count) if all([world in claim for claim in claims])])

    def check_set(self, said):
        """Refuses what is not a set of sentences of this scene."""
        if not isinstance(said, tuple) or not all([name in self for name in said]):
            raise BadSet("not a tuple of names of sentences")
        if list(said) != list(self.in_order(said)):
            raise BadSet("not different names in the order of the scene")

    def in_order(self, names):
        """The set of the sentences that have these names."""
        return tuple([name for name in self._sentences if name in names])

    def sees(self, person, world):
        """The number that a person sees in a world."""
        return self._sights[person][world]

    def __eq__(self, other):
        # Dicts are equal in any order, people and sentences are not: so their items are compared as lists.
        return (
            isinstance(other, Scene)
            and self._count == other._count
            and self._real == other._real
            and list(self._sights.items()) == list(other._sights.items())
            and self._fact == other._fact
            and list(self._sentences.items()) == list(other._sentences.items())
            and self._goals == other._goals
        )


def check_partner(other, total):
    """Refuses what is not a claim with as many worlds."""
    if not is_claim(other, total):
        raise BadClaim("not a claim with as many worlds")


def check_scene(scene):
    """Refuses an argument that is no Scene."""
    if not isinstance(scene, Scene):
        raise BadScene(None)


def is_claim(value, count):
    """Whether a value is a claim with a number of worlds."""
    return isinstance(value, Claim) and value.total == count


def are_world_and_count(real, count):
    """Whether these are a world and a number of worlds of a scene."""
    return is_number(count, 2, 8) and is_number(real, 0, count - 1)


def are_people(value, count):
    """Whether a value is a dict from 1 to 4 names to the numbers seen in a number of worlds."""
    if not isinstance(value, dict) or not 1 <= len(value) <= 4:
        return False
    return all([is_name(name) and are_sights(value[name], count) for name in value])


def are_sights(value, count):
    """Whether a value is a tuple with a number from 0 to 3 for each world."""
    return are_numbers(value, 0, 3) and len(value) == count


def are_sentences(value, count, real):
    """Whether a value is a dict from at most 6 names to claims with costs that can be said."""
    if not isinstance(value, dict) or len(value) > 6:
        return False
    return all([is_name(name) and is_sentence(value[name], count, real) for name in value])


def is_sentence(value, count, real):
    """Whether a value is a pair of a claim that is true in the real world and a cost."""
    if not isinstance(value, tuple) or len(value) != 2:
        return False
    claim, cost = value
    return is_claim(claim, count) and real in claim and is_number(cost, 1, 9)


def are_goals(value, people):
    """Whether a value is a list or tuple of 1 to 6 goals about these people."""
    if not isinstance(value, (list, tuple)) or not 1 <= len(value) <= 6:
        return False
    return all([is_goal(goal, people) for goal in value])


def is_goal(value, people):
    """Whether a value is a pair of a chain of these people and a boolean."""
    if not isinstance(value, tuple) or len(value) != 2:
        return False
    chain, wanted = value
    return is_chain(chain, people) and isinstance(wanted, bool)
