"""Scenes as text: one line for each part of a scene."""

from tellsome.errors import BadClaim, BadScene, BadText
from tellsome.kinds import is_name
from tellsome.scenes import Claim, Scene, check_scene

DIGITS = "0123456789"

# What may stand directly before a line of each kind; nothing stands before the first line.
BEFORE = {
    "worlds": ("",),
    "person": ("worlds", "person"),
    "fact": ("worlds", "person"),
    "sentence": ("fact", "sentence"),
    "goal": ("fact", "sentence", "goal"),
}


def scene_text(scene):
    """The text of a scene."""
    check_scene(scene)
    rows = [["worlds", scene.fact.total, scene.actual]]
    for name in scene.people:
        rows.append(["person", name] + [scene.sees(name, world) for world in range(scene.fact.total)])
    rows.append(["fact"] + list(scene.fact.worlds))
    for name in scene.names:
        rows.append(["sentence", name, scene.cost(name)] + list(scene[name].worlds))
    for chain, wanted in scene.goals:
        rows.append(["goal"] + list(chain) + ["yes" if wanted else "no"])
    return "".join([" ".join([str(word) for word in row]) + "\n" for row in rows])


def read_scene(text):
    """The scene of a text."""
    if not isinstance(text, str):
        raise BadText(0)
    *lines, rest = text.split("\n")
    rows = [line.split(" ") for line in lines]
    before = ""
    for index, words in enumerate(rows):
        if before not in BEFORE.get(words[0], ()) or not is_row(words):
            raise BadText(index)
        before = words[0]
    if before != "goal" or rest != "":
        raise BadText(len(rows))
    return scene_of(rows)


def is_row(words):
    """Whether the words of a line, the first of which is a kind, have the form of this kind."""
    kind, *rest = words
    if kind == "worlds":
        return len(rest) == 2 and are_digits(rest, DIGITS)
    if kind == "person":
        return len(rest) > 1 and is_name(rest[0]) and are_digits(rest[1:], "0123")
    if kind == "fact":
        return are_ascending(rest)
    if kind == "sentence":
        return len(rest) > 2 and is_name(rest[0]) and are_digits(rest[1:2], "123456789") and are_ascending(rest[2:])
    return 2 <= len(rest) <= 4 and all([is_name(name) for name in rest[:-1]]) and rest[-1] in ("yes", "no")


def are_digits(words, digits):
    """Whether each word is one of some digits."""
    return all([len(word) == 1 and word in digits for word in words])


def are_ascending(words):
    """Whether words are different digits in ascending order."""
    return are_digits(words, DIGITS) and words == sorted(set(words))


def scene_of(rows):
    """The scene that accepted lines form."""
    persons, sayings = rows_of(rows, "person"), rows_of(rows, "sentence")
    people = {name: tuple(numbers(seen)) for name, *seen in persons}
    named = {name: told for name, *told in sayings}
    if len(people) != len(persons) or len(named) != len(sayings):
        raise BadText(0)
    count, real = numbers(rows_of(rows, "worlds")[0])
    goals = [(tuple(chain), word == "yes") for *chain, word in rows_of(rows, "goal")]
    try:
        fact = claim_of(count, rows_of(rows, "fact")[0])
        sentences = {name: (claim_of(count, named[name][1:]), int(named[name][0])) for name in named}
        return Scene(count, real, people, fact, sentences, goals)
    except (BadClaim, BadScene):
        raise BadText(0)


def rows_of(rows, kind):
    """What follows the first word in each of the lines of a kind."""
    return [words[1:] for words in rows if words[0] == kind]


def claim_of(count, words):
    """The claim that is true in these of a number of worlds."""
    worlds = numbers(words)
    return Claim(count, *worlds)


def numbers(words):
    """The numbers that these digits are."""
    return [int(word) for word in words]
