"""What several tests share: values of other kinds, a scene to change, and small scenes with a plain reading."""

from itertools import combinations, product

from tellsome.scenes import Claim, Scene


class Touchy:
    """A value that fails when it is compared, hashed, measured, iterated over or tested."""

    def fail(self, *told):
        raise RuntimeError("a value of another kind was touched")

    __eq__ = __ne__ = __lt__ = __le__ = __gt__ = __ge__ = __hash__ = fail
    __len__ = __iter__ = __bool__ = __contains__ = __getitem__ = __index__ = fail


def other_kinds():
    """Values of many kinds, none of which is good where the tests use them, unless a test says so."""
    return [
        None, True, False, -1, 10 ** 30, "", "Ann", "nobody", b"ann", (), (1,), [], [1], ["ann"], {}, {"ann": 1}, {1},
        frozenset(), range(2), iter(()), object(), int, Claim, Scene, len, lambda: 0, 1j, ..., Touchy(), [Touchy()],
        (Touchy(),), {1: Touchy()}, (True,), ([],), ({},), (None,), (("ann",),), Claim(5, 1), Claim(1), example(),
    ]


def parts(**changes):
    """The six arguments of a scene, some of them changed."""
    given = {
        "count": 4,
        "real": 3,
        "people": {"ann": (0, 0, 1, 1), "bob": (0, 1, 0, 1)},
        "fact": Claim(4, 3),
        "sentences": {"odd": (Claim(4, 1, 3), 2), "some": (-Claim(4, 0), 1)},
        "goals": [(("ann",), True), (("bob",), False)],
    }
    given.update(changes)
    return given


def example(**changes):
    """The scene of the document's examples, some of its arguments changed."""
    return Scene(**parts(**changes))


class Numbers:
    """A fixed sequence of numbers that look as if they had been drawn."""

    def __init__(self, start):
        self.state = start

    def below(self, limit):
        self.state = (self.state * 6364136223846793005 + 1442695040888963407) % 2 ** 64
        return (self.state >> 33) % limit

    def some(self, values):
        return [value for value in values if self.below(2)]


class Small:
    """A small scene, as plain values and as a Scene, with the words of the points 4 to 6 read off the plain values."""

    def __init__(self, start):
        numbers = Numbers(start)
        self.count = 2 + numbers.below(4)
        self.real = numbers.below(self.count)
        worlds = range(self.count)
        people = ("ann", "bob", "cy", "dot")[:1 + numbers.below(4)]
        self.sights = {name: tuple(numbers.below(3) for _ in worlds) for name in people}
        self.fact = [world for world in worlds if numbers.below(4)]
        self.true_in = {name: sorted({self.real, *numbers.some(worlds)}) for name in ("p", "q", "r")[:numbers.below(4)]}
        sentences = {name: (Claim(self.count, *self.true_in[name]), 1 + numbers.below(9)) for name in self.true_in}
        self.chains = [chain for size in (1, 2, 3) for chain in product(people, repeat=size)]
        self.goals = [(self.chains[numbers.below(len(self.chains))], numbers.below(2) == 1) for _ in range(3)]
        self.scene = Scene(self.count, self.real, self.sights, Claim(self.count, *self.fact), sentences, self.goals)

    def sets(self):
        return [said for size in range(len(self.true_in) + 1) for said in combinations(self.true_in, size)]

    def left(self, said):
        return [world for world in range(self.count) if all(world in self.true_in[name] for name in said)]

    def confused(self, said, person, world):
        numbers = self.sights[person]
        return [other for other in self.left(said) if numbers[other] == numbers[world]]

    def holds(self, said, chain, world):
        if not chain:
            return world in self.fact
        return all(self.holds(said, chain[1:], other) for other in self.confused(said, chain[0], world))

    def is_circle(self, said, chain, found):
        left = self.left(said)
        if len(found) != len(chain) + 1 or self.real not in found[0]:
            return False
        for ring in found:
            if any(world not in left for world in ring) or any(a >= b for a, b in zip(ring, ring[1:])):
                return False
        for place, person in enumerate(chain):
            for world in found[place]:
                if any(other not in found[place + 1] for other in self.confused(said, person, world)):
                    return False
        return all(world in self.fact for world in found[-1])

    def is_path(self, said, chain, found):
        left = self.left(said)
        if len(found) != len(chain) + 1 or found[0] != self.real or any(world not in left for world in found):
            return False
        for place, person in enumerate(chain):
            if found[place + 1] not in self.confused(said, person, found[place]):
                return False
        return found[-1] not in self.fact


def small_cases(many):
    """Small scenes, each with each of its sets and chains."""
    for start in range(many):
        small = Small(start)
        for said in small.sets():
            for chain in small.chains:
                yield small, said, chain
