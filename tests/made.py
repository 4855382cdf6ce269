"""What several tests share: values of other kinds, a scene to change, and small scenes with a plain reading."""

from itertools import combinations, product

from tellsome.scenes import Claim, Scene


class Touchy:
    """A value that fails when it is compared, hashed, measured, iterated over or tested."""

    def fail(self, *told):
        raise RuntimeError("a value of another kind was touched")

    __eq__ = __ne__ = __lt__ = __le__ = __gt__ = __ge__ = __hash__ = fail
    __len__ = __iter__ = __bool__ = __contains__ = __getitem__ = __index__ = fail


def other_kinds():
    """Values of many kinds, none of which is good where the tests use them, unless a test says so."""
    return [
        None, True, False, -1, 10 ** 30, "", "Ann", "nobody", b"ann", (), (1,), [], [1], ["ann"], {}, {"ann": 1}, {1},
        frozenset(), range(2), iter(()), object(), int, Claim, Scene, len, lambda: 0, 1j, ..., Touchy(), [Touchy()],
        (Touchy(),), {1: Touchy()}, (True,), ([],), ({},), (None,), (("ann",),), Claim(5, 1), Claim(1), example(),
    ]


def parts(**changes):
    """The six arguments of a scene, some of them changed."""
    given = {
        "count": 4,
        "real": 3,
        "people": {"ann": (0, 0, 1, 1), "bob": (0, 1, 0, 1)},
        "fact": Claim(4, 3),
        "sentences": {"odd": (Claim(4, 1, 3), 2), "some": (-Claim(4, 0), 1)},
        "goals": [(("ann",), True), (("bob",), False)],
    }
    given.update(changes)
    return given


def example(**changes):
    """The scene of the document's examples, some of its arguments changed."""
    return Scene(**parts(**changes))


class Numbers:
    """A fixed sequence of numbers that look as if they had been drawn."""

    def __init__(self, start):
        self.state = start

    def below(self, limit):
        self.state = (self.state * 6364136223846793005 + 1442695040888963407) % 2 ** 64
        return (self.state >> 33) % limit

    def some(self, values):
        return [value for value in values if self.below(2)]


class Small:
    """A small scene, as plain values and as a Scene, with the words of the document read off the plain values."""

    def __init__(self, start, worlds=5, sentences=3, costs=9, goals=3, aimed=False):
        numbers = Numbers(start)
        self.count = 2 + numbers.below(worlds - 1)
        self.real = numbers.below(self.count)
        worlds = range(self.count)
        self.people = ("ann", "bob", "cy", "dot")[:1 + numbers.below(4)]
        self.sights = {name: tuple(numbers.below(3) for _ in worlds) for name in self.people}
        self.fact = [world for world in worlds if numbers.below(4)]
        names = ("p", "q", "r", "s", "t", "u")[:numbers.below(sentences + 1)]
        self.true_in = {name: sorted({self.real, *numbers.some(worlds)}) for name in names}
        self.costs = {name: 1 + numbers.below(costs) for name in names}
        self.chains = [chain for size in (1, 2, 3) for chain in product(self.people, repeat=size)]
        self.goals = [(self.chains[numbers.below(len(self.chains))], numbers.below(2) == 1) for _ in range(goals)]
        if aimed:
            self.aim(numbers)
        pairs = {name: (Claim(self.count, *self.true_in[name]), self.costs[name]) for name in names}
        self.scene = Scene(self.count, self.real, self.sights, Claim(self.count, *self.fact), pairs, self.goals)

    def aim(self, numbers):
        """Exchanges what is rarely of interest, so that some set meets all goals and most others do not."""
        worlds = range(self.count)
        self.fact = sorted({self.real, *numbers.some(worlds)})
        self.true_in = {name: [at for at in worlds if at == self.real or numbers.below(3)] for name in self.true_in}
        said = numbers.some(self.true_in)
        chains = sorted(self.chains, key=lambda chain: (not self.turns(chain), numbers.below(100)))
        known = [chain for chain in chains if self.holds(said, chain, self.real)]
        unknown = [chain for chain in chains if chain not in known]
        goals = [(chain, True) for chain in known[:len(self.goals)]]
        goals = [goal for pair in zip(goals, [(chain, False) for chain in unknown]) for goal in pair] or goals
        self.goals = goals[:len(self.goals)] or self.goals

    def turns(self, chain):
        """Whether a chain holds for some sets and not for others."""
        return len({self.holds(said, chain, self.real) for said in self.sets()}) > 1

    def sets(self):
        return [said for size in range(len(self.true_in) + 1) for said in combinations(self.true_in, size)]

    def cost(self, said):
        return sum(self.costs[name] for name in said)

    def left(self, said):
        return [world for world in range(self.count) if all(world in self.true_in[name] for name in said)]

    def confused(self, said, person, world):
        numbers = self.sights[person]
        return [other for other in self.left(said) if numbers[other] == numbers[world]]

    def holds(self, said, chain, world):
        if not chain:
            return world in self.fact
        return all(self.holds(said, chain[1:], other) for other in self.confused(said, chain[0], world))

    def meets(self, said):
        return [self.holds(said, chain, self.real) == wanted for chain, wanted in self.goals]

    def is_good(self, said):
        return all(self.meets(said))

    def is_circle(self, said, chain, found):
        left = self.left(said)
        if len(found) != len(chain) + 1 or self.real not in found[0]:
            return False
        for ring in found:
            if any(world not in left for world in ring) or any(a >= b for a, b in zip(ring, ring[1:])):
                return False
        for place, person in enumerate(chain):
            for world in found[place]:
                if any(other not in found[place + 1] for other in self.confused(said, person, world)):
                    return False
        return all(world in self.fact for world in found[-1])

    def is_path(self, said, chain, found):
        left = self.left(said)
        if len(found) != len(chain) + 1 or found[0] != self.real or any(world not in left for world in found):
            return False
        for place, person in enumerate(chain):
            if found[place + 1] not in self.confused(said, person, found[place]):
                return False
        return found[-1] not in self.fact

    def is_proof(self, said, chain, known, found):
        """Whether it is a circle, or a path, of whichever kind it is."""
        if known:
            return all(type(ring) is tuple for ring in found) and self.is_circle(said, chain, found)
        return all(type(world) is int for world in found) and self.is_path(said, chain, found)

    def are_reasons(self, said, reasons):
        return all(self.is_proof(said, *goal, found) for goal, found in zip(self.goals, reasons, strict=True))

    def are_doubts(self, sets, doubts):
        return sorted(doubts) == sorted(sets) and all(self.is_doubt(said, *doubts[said]) for said in sets)

    def is_doubt(self, said, index, found):
        chain, wanted = self.goals[index]
        return self.is_proof(said, chain, not wanted, found)

    def is_answer(self, said, reasons, doubts):
        """Whether this is as point 7 says, except that the set need not be the first one; it may be None."""
        if said is None:
            return self.are_doubts(self.sets(), doubts)
        cheaper = [other for other in self.sets() if self.cost(other) < self.cost(said)]
        return self.are_reasons(said, reasons) and self.are_doubts(cheaper, doubts)

    def cheapest(self):
        """The set of point 7, or None, by a trial of all sets."""
        best = None
        for said in self.sets():
            if self.is_good(said) and (best is None or self.cost(said) < self.cost(best)):
                best = said
        return best

    def groups(self):
        return [group for size in range(1, len(self.people) + 1) for group in combinations(self.people, size)]

    def horizon(self, said, group):
        reached, waiting = set(), [self.real]
        while waiting:
            world = waiting.pop()
            if world not in reached:
                reached.add(world)
                for person in group:
                    waiting.extend(self.confused(said, person, world))
        return tuple(sorted(reached))

    def dialogue(self, said, speakers):
        left, turns = self.left(said), []
        for speaker in speakers:
            row = self.sights[speaker]
            knowing = [
                world for world in left
                if all(other in self.fact for other in left if row[other] == row[world])
            ]
            knows = self.real in knowing
            left = [world for world in left if (world in knowing) == knows]
            turns.append((knows, tuple(left)))
        return turns


def telling_scenes(many, **limits):
    """The first small scenes within some limits in which something must be said to meet all goals."""
    found, start = [], 0
    while len(found) < many:
        small = Small(start, aimed=True, **limits)
        start += 1
        if small.cheapest():
            found.append(small)
    return found


def small_cases(many):
    """Small scenes, each with each of its sets and chains."""
    for start in range(many):
        small = Small(start)
        for said in small.sets():
            for chain in small.chains:
                yield small, said, chain
