"""Point 12: scenes as text, with the section tellsome/texts.py of the interface."""

import re
import unittest

from tellsome.errors import BadScene, BadText
from tellsome.scenes import Claim, Scene
from tellsome.texts import read_scene, scene_text
from tests.made import Small, example, other_kinds, parts

EXAMPLE = """\
worlds 4 3
person ann 0 0 1 1
person bob 0 1 0 1
fact 3
sentence odd 2 1 3
sentence some 1 1 2 3
goal ann yes
goal bob no
"""

NAME = "[a-z]{1,8}"
ASCENDING = "".join(f"( {digit})?" for digit in range(10))
FORMS = {
    "w": "worlds [0-9] [0-9]",
    "p": f"person {NAME}( [0-3])+",
    "f": f"fact{ASCENDING}",
    "s": f"sentence {NAME} [1-9](?= ){ASCENDING}",
    "g": f"goal( {NAME}){{1,3}} (yes|no)",
}


def kind_of(line):
    """The letter of the form that a line has, or a letter of none."""
    return next((kind for kind, form in FORMS.items() if re.fullmatch(form, line)), "x")


def expected_row(text):
    """The row of point 12, or None if the lines form a scene: read off regular expressions and plain values."""
    lines, rest = text.split("\n")[:-1], text.split("\n")[-1]
    kinds = "".join(kind_of(line) for line in lines)
    for row in range(len(lines)):
        if not re.fullmatch("w(p*|p*fs*g*)", kinds[:row + 1]):
            return row
    if "g" not in kinds or rest:
        return len(lines)
    return None if is_a_scene([line.split(" ") for line in lines]) else 0


def is_a_scene(rows):
    """Whether accepted lines form a scene: the conditions of the points 2, 3 and 5."""
    count, real = int(rows[0][1]), int(rows[0][2])
    people = [words for words in rows if words[0] == "person"]
    names = [words[1] for words in people]
    facts = [words for words in rows if words[0] == "fact"][0][1:]
    told = [words for words in rows if words[0] == "sentence"]
    goals = [words for words in rows if words[0] == "goal"]
    return (
        2 <= count <= 8 and real < count
        and 1 <= len(people) <= 4 and len(set(names)) == len(names)
        and all(len(words) == 2 + count for words in people)
        and all(int(world) < count for world in facts)
        and len(told) <= 6 and len({words[1] for words in told}) == len(told)
        and all(int(world) < count for words in told for world in words[3:])
        and all(str(real) in words[3:] for words in told)
        and 1 <= len(goals) <= 6
        and all(name in names for words in goals for name in words[1:-1])
    )


def joined(*lines):
    return "".join(line + "\n" for line in lines)


class TextCase(unittest.TestCase):
    def refuse(self, row, text):
        with self.subTest(text=text), self.assertRaises(BadText) as caught:
            read_scene(text)
        self.assertIs(type(caught.exception.row), int)
        self.assertEqual(caught.exception.row, row)

    def compare(self, text):
        """Compares a text with the plain reading; the row, or None."""
        row = expected_row(text)
        if row is None:
            scene = read_scene(text)
            self.assertEqual(scene_text(scene), text)
        else:
            self.refuse(row, text)
        return row


class Writing(TextCase):
    def test_the_example(self):
        self.assertEqual(scene_text(example()), EXAMPLE)
        self.assertEqual(read_scene(EXAMPLE), example())

    def test_a_fact_that_is_true_in_no_world(self):
        text = scene_text(example(fact=Claim(4)))
        self.assertEqual(text.split("\n")[3], "fact")
        self.assertEqual(read_scene(text), example(fact=Claim(4)))

    def test_no_sentence(self):
        scene = example(sentences={})
        self.assertEqual(scene_text(scene).count("\n"), 6)
        self.assertEqual(read_scene(scene_text(scene)), scene)

    def test_the_largest_scene(self):
        people = {name: (0, 1, 2, 3, 3, 2, 1, 0) for name in ("dorothea", "bob", "c", "ann")}
        sentences = {name: (Claim.sure(8), cost) for cost, name in zip(range(4, 10), ("f", "e", "d", "c", "b", "abcdefgh"))}
        goals = [(("bob", "c", "bob"), True), (("dorothea",) * 3, False)] * 3
        scene = Scene(8, 7, people, Claim.sure(8), sentences, goals)
        text = scene_text(scene)
        self.assertEqual(text.count("\n"), 18)
        self.assertEqual(text.split("\n")[:2], ["worlds 8 7", "person dorothea 0 1 2 3 3 2 1 0"])
        self.assertEqual(text.split("\n")[11], "sentence abcdefgh 9 0 1 2 3 4 5 6 7")
        self.assertEqual(text.split("\n")[12:14], ["goal bob c bob yes", "goal dorothea dorothea dorothea no"])
        self.assertEqual(read_scene(text), scene)

    def test_the_smallest_scene(self):
        text = joined("worlds 2 0", "person a 0 0", "fact", "goal a no")
        self.assertEqual(scene_text(read_scene(text)), text)
        self.assertEqual(read_scene(text), Scene(2, 0, {"a": (0, 0)}, Claim(2), {}, [(("a",), False)]))

    def test_the_orders_of_the_scene_are_kept(self):
        people = {"bob": (0, 1, 0, 1), "ann": (0, 0, 1, 1)}
        sentences = {"some": (-Claim(4, 0), 1), "odd": (Claim(4, 1, 3), 2)}
        scene = example(people=people, sentences=sentences, goals=[(("bob",), False), (("ann",), True)])
        text = scene_text(scene)
        self.assertEqual([line.split(" ")[1] for line in text.split("\n")[1:-1]],
                         ["bob", "ann", "3", "some", "odd", "bob", "ann"])
        self.assertEqual(read_scene(text), scene)
        self.assertNotEqual(read_scene(text), example())

    def test_small_scenes(self):
        for start in range(300):
            scene = Small(start, worlds=8, sentences=6, goals=1 + start % 6).scene
            text = scene_text(scene)
            self.assertIs(type(text), str)
            self.assertIs(expected_row(text), None)
            self.assertEqual(read_scene(text), scene)
            self.assertEqual(scene_text(read_scene(text)), text)

    def test_names_that_are_words_of_the_text(self):
        for name in ("worlds", "person", "fact", "sentence", "goal", "yes", "no"):
            goals = [((name,), True), ((name, name), False)]
            scene = example(people={name: (0, 1, 2, 3)}, sentences={name: (Claim(4, 3), 1)}, goals=goals)
            self.assertEqual(read_scene(scene_text(scene)), scene)

    def test_refused(self):
        for value in other_kinds() + [EXAMPLE, Scene, parts()]:
            if not isinstance(value, Scene):
                with self.subTest(kind=type(value)), self.assertRaises(BadScene) as caught:
                    scene_text(value)
                self.assertIsNone(caught.exception.part)


class Lines(TextCase):
    """The forms and places of lines: each text is the example with one line exchanged."""

    LINES = EXAMPLE.split("\n")[:-1]

    def exchange(self, place, line):
        return joined(*self.LINES[:place], line, *self.LINES[place + 1:])

    def refused(self, place, *lines):
        for line in lines:
            self.assertEqual(expected_row(self.exchange(place, line)), place)
            self.refuse(place, self.exchange(place, line))

    def at_the_end(self, place, *lines):
        for line in lines:
            self.assertEqual(expected_row(self.exchange(place, line)), 0)
            self.refuse(0, self.exchange(place, line))
            # At the end of a text without a goal, a line that is accepted is told from one that is not.
            if place < 6:
                self.refuse(place + 1, joined(*self.LINES[:place], line))

    def accepted(self, place, *lines):
        for line in lines:
            self.assertEqual(scene_text(read_scene(self.exchange(place, line))), self.exchange(place, line))

    def test_worlds(self):
        self.refused(
            0, "worlds", "worlds 4", "worlds 4 3 2", "worlds 04 3", "worlds 4 03", "worlds 14 3", "worlds 4 13",
            "worlds  4 3", "worlds 4  3", " worlds 4 3", "worlds 4 3 ", "worlds a 3", "worlds 4 a", "worlds -4 3",
            "worlds 4 -3", "worlds +4 3", "World 4 3", "world 4 3", "WORLDS 4 3", "worlds4 3", "worlds 43", "worlds\t4 3",
            "worlds 4 \u0663", "worlds \u0664 3", "worlds 4 \u00b3", "worlds 4 3\r", "", " ", "worlds 4 3.", "4 3",
        )
        self.at_the_end(0, "worlds 0 0", "worlds 1 0", "worlds 9 0", "worlds 9 9", "worlds 4 4", "worlds 4 9")
        self.at_the_end(0, "worlds 3 2", "worlds 5 3", "worlds 8 3", "worlds 4 0", "worlds 4 2")
        self.accepted(0, "worlds 4 3")

    def test_persons(self):
        self.refused(
            1, "person", "person ann", "person 0 0 1 1", "person ann 0 0 1 4", "person ann 4 0 1 1", "person ann 0 0 1 9",
            "person ann 0 0 1 01", "person ann 0 0 1 -1", "person ann 0 0 1 11", "person Ann 0 0 1 1",
            "person ann1 0 0 1 1", "person abcdefghi 0 0 1 1", "person  0 0 1 1", "person ann 0 0  1 1",
            "person ann  0 0 1 1", "person  ann 0 0 1 1", " person ann 0 0 1 1", "person ann 0 0 1 1 ",
            "person ann 0 0 1 a", "person ann bob 0 0 1 1", "person ann 0 0 1 1\r", "people ann 0 0 1 1",
            "Person ann 0 0 1 1", "person \u00e4nn 0 0 1 1", "person ann 0 0 1 \u0661", "person ann 0 0 1 \u00b9",
            "person ann_ 0 0 1 1", "person\tann 0 0 1 1", "person ann 0,0,1,1", "",
        )
        self.at_the_end(1, "person ann 0", "person ann 0 0 1", "person ann 0 0 1 1 1", "person ann 0 0 1 1 2 2 3 3 0 0")
        self.at_the_end(1, "person cy 0 0 1 1", "person bob 0 0 1 1")
        self.accepted(1, "person ann 3 2 1 0", "person ann 0 0 0 0")

    def test_facts(self):
        self.refused(
            3, "fact ", "fact  3", "fact 3 ", " fact 3", "fact 3 1", "fact 1 1", "fact 0 1 1", "fact 0 2 1", "fact 03",
            "fact 13", "fact 1 13", "fact a", "fact -1", "fact 1  3", "facts 3", "Fact 3", "fact 3 4 3", "fac", "", "fact\t3",
            "fact \u0663", "fact 3\r", "fact,3", "fact 1 2 3 4 5 6 7 8 9 9", "fact three",
        )
        self.at_the_end(3, "fact 4", "fact 3 9", "fact 0 1 2 3 4", "fact 0 1 2 3 4 5 6 7 8 9", "fact 9")
        self.accepted(3, "fact", "fact 0", "fact 0 1 2 3", "fact 0 2", "fact 1 3")

    def test_sentences(self):
        self.refused(
            4, "sentence", "sentence odd", "sentence odd 2", "sentence 2 1 3", "sentence odd 0 1 3", "sentence odd 10 1 3",
            "sentence odd 02 1 3", "sentence odd a 1 3", "sentence odd -2 1 3", "sentence odd 2 3 1",
            "sentence odd 2 1 1", "sentence odd 2 1 3 3", "sentence odd 2 1 13", "sentence odd 2 1 03",
            "sentence odd 2 1 a", "sentence odd 2  1 3", "sentence odd  2 1 3", "sentence  odd 2 1 3",
            " sentence odd 2 1 3", "sentence odd 2 1 3 ", "sentence odd 2 ", "sentence Odd 2 1 3", "sentence od1 2 1 3",
            "sentence abcdefghi 2 1 3", "sentence  2 1 3", "sentence odd some 2 1 3", "Sentence odd 2 1 3", "sentences",
            "sentence odd 2 1 \u0663", "sentence odd \u0662 1 3", "sentence odd \u00b2 1 3", "sentence odd 2 1 3\r", "",
        )
        self.at_the_end(4, "sentence odd 2 1", "sentence odd 2 0 1 2", "sentence odd 2 3 4", "sentence odd 2 1 3 9")
        self.at_the_end(4, "sentence some 2 1 3", "sentence odd 9 9", "sentence odd 2 0 1 2 3 4 5 6 7 8 9")
        self.accepted(4, "sentence odd 1 3", "sentence odd 9 0 1 2 3", "sentence ann 5 3", "sentence z 2 0 3")

    def test_goals(self):
        self.refused(
            6, "goal", "goal yes", "goal ann", "goal ann Yes", "goal ann maybe", "goal ann true", "goal ann yes no ok",
            "goal ann bob ann bob yes", "goal Ann yes", "goal an1 yes", "goal abcdefghi yes", "goal  yes", "goal ann  yes",
            "goal  ann yes", " goal ann yes", "goal ann yes ", "goal ann y", "goal ann 1", "goal ann yesno",
            "goal ann, bob yes", "Goal ann yes", "goals ann yes", "goal ann yes\r", "goal\tann yes", "", "goal ann YES",
            "goal ann NO", "goal ann yes 1", "goal 1 yes", "goal ann ",
        )
        self.at_the_end(6, "goal cy yes", "goal ann cy no", "goal ann bob cy yes", "goal odd yes", "goal yes yes")
        self.accepted(6, "goal ann no", "goal ann bob ann yes", "goal bob bob bob no", "goal bob ann yes")


class Places(TextCase):
    LINES = EXAMPLE.split("\n")[:-1]

    def test_each_line_removed(self):
        rows = [self.compare(joined(*self.LINES[:at], *self.LINES[at + 1:])) for at in range(8)]
        # Without one person, one goal is about nobody; all other lines may lack but the first one and the fact.
        self.assertEqual(rows, [0, 0, 0, 3, None, None, None, None])

    def test_each_line_doubled(self):
        rows = [self.compare(joined(*self.LINES[:at], self.LINES[at], *self.LINES[at:])) for at in range(8)]
        self.assertEqual(rows, [1, 0, 0, 4, 0, 0, None, None])

    def test_each_line_at_each_place(self):
        for taken in range(8):
            rest = self.LINES[:taken] + self.LINES[taken + 1:]
            for place in range(8):
                self.compare(joined(*rest[:place], self.LINES[taken], *rest[place:]))

    def test_each_line_added_at_each_place(self):
        rows = []
        for line in (*self.LINES, "person cy 0 0 0 0", "sentence more 1 3", "goal ann ann yes", "", "other", "worlds 4 2"):
            for place in range(9):
                rows.append(self.compare(joined(*self.LINES[:place], line, *self.LINES[place:])))
        self.assertEqual(sorted({row for row in rows if row is not None}), list(range(9)))

    def test_pairs_of_lines_exchanged(self):
        for one in range(8):
            for other in range(one):
                lines = list(self.LINES)
                lines[one], lines[other] = lines[other], lines[one]
                self.compare(joined(*lines))

    def test_the_first_line_that_is_not_accepted(self):
        for one in range(8):
            for other in range(one + 1, 8):
                lines = list(self.LINES)
                lines[one] = lines[other] = "wrong"
                self.refuse(one, joined(*lines))
        self.refuse(1, joined("worlds 9 9", "wrong"))
        self.refuse(2, joined("worlds 4 3", "person ann 0", "worlds 4 3", "person ann 0"))

    def test_a_fact_may_follow_the_first_line(self):
        self.refuse(0, joined("worlds 4 3", "fact 3", "goal ann yes"))
        self.refuse(2, joined("worlds 4 3", "fact 3"))
        self.refuse(2, joined("worlds 4 3", "fact 3", "person ann 0 0 1 1", "goal ann yes"))

    def test_a_sentence_or_a_goal_only_follows_a_fact(self):
        self.refuse(2, joined("worlds 4 3", "person ann 0 0 1 1", "goal ann yes"))
        self.refuse(2, joined("worlds 4 3", "person ann 0 0 1 1", "sentence odd 2 1 3", "fact 3", "goal ann yes"))
        self.refuse(1, joined("worlds 4 3", "goal ann yes"))
        self.refuse(0, joined("goal ann yes"))

    def test_small_scenes_with_a_line_altered_removed_doubled_or_added(self):
        rows = []
        for start in range(40):
            small = Small(start, worlds=8, sentences=6, goals=1 + start % 6)
            lines = scene_text(small.scene).split("\n")[:-1]
            other = scene_text(Small(start + 1).scene).split("\n")[:-1]
            for at, line in enumerate(lines):
                before, after = lines[:at], lines[at + 1:]
                words = line.split(" ")
                changes = [[], [line, line], [line, other[at % len(other)]], [other[at % len(other)]]]
                changes += [[line + " 0"], [" ".join(words[:-1])], [" ".join([*words, words[-1]])], [line + " "]]
                changes += [["".join(words)], [line.replace(" ", "  ", 1)], [line.upper()]]
                for place, word in enumerate(words):
                    for instead in ("0", "4", "9", "", "ann", "10", "yes", "x1"):
                        changes.append([" ".join([*words[:place], instead, *words[place + 1:]])])
                rows.extend(self.compare(joined(*before, *change, *after)) for change in changes)
        self.assertGreater(rows.count(None), 500)
        self.assertGreater(rows.count(0), 500)
        self.assertGreater(len([row for row in rows if row]), 5000)


class Ends(TextCase):
    def test_the_empty_text(self):
        self.refuse(0, "")

    def test_only_line_feeds(self):
        self.refuse(0, "\n")
        self.refuse(0, "\n\n\n")
        self.refuse(8, EXAMPLE + "\n")
        self.refuse(0, "\n" + EXAMPLE)

    def test_no_line_of_a_goal(self):
        lines = EXAMPLE.split("\n")[:-1]
        for many in range(7):
            self.refuse(many, joined(*lines[:many]))

    def test_no_line_of_a_goal_comes_before_no_scene(self):
        self.refuse(3, joined("worlds 4 3", "person ann 0 0 1 1", "fact 9"))
        self.refuse(4, joined("worlds 1 3", "person ann 0", "person ann 0", "fact"))
        self.refuse(1, joined("worlds 0 0"))

    def test_no_last_line_feed(self):
        self.refuse(7, EXAMPLE[:-1])
        self.refuse(0, "worlds 4 3")
        self.refuse(0, "w")
        self.refuse(1, "worlds 4 3\nperson ann 0 0 1 1")

    def test_characters_behind_the_last_line_feed(self):
        for rest in ("g", " ", "goal ann yes", "\r", "worlds 4 3", "\t", "\x00", "\u2028"):
            self.refuse(8, EXAMPLE + rest)

    def test_characters_behind_the_last_line_feed_come_before_no_scene(self):
        text = EXAMPLE.replace("worlds 4 3", "worlds 9 9")
        self.refuse(0, text)
        self.refuse(8, text + "goal")
        self.refuse(7, text[:-1])

    def test_a_line_that_is_not_accepted_comes_before_both(self):
        self.refuse(1, "worlds 4 3\nwrong\nrest")
        self.refuse(0, "wrong\nrest")
        self.refuse(2, joined("worlds 4 3", "fact", "wrong"))

    def test_only_a_line_feed_ends_a_line(self):
        for end in ("\r", "\r\n", "\x0b", "\x0c", "\x1c", "\x85", "\u2028", "\u2029"):
            self.refuse(0, EXAMPLE.replace("\n", end))
            self.refuse(0, EXAMPLE.replace("\n", end, 1))
            self.refuse(7, EXAMPLE[:-1] + end)


class Ended(TextCase):
    """Accepted lines that do not form a scene."""

    def text(self, count="4 3", people=("ann 0 0 1 1",), fact=" 3", sentences=(), goals=("ann yes",)):
        return joined(
            f"worlds {count}", *(f"person {row}" for row in people), f"fact{fact}",
            *(f"sentence {row}" for row in sentences), *(f"goal {row}" for row in goals),
        )

    def check(self, good, **changes):
        text = self.text(**changes)
        if good:
            self.assertEqual(scene_text(read_scene(text)), text)
        else:
            self.refuse(0, text)
        self.assertIs(expected_row(text) is None, good)

    def test_people(self):
        rows = [f"{name} 0 0 1 1" for name in ("ann", "bob", "cy", "dot", "eve")]
        for many in range(6):
            self.check(1 <= many <= 4, people=rows[:many])
        self.check(False, people=rows[:2] + rows[:1])
        self.check(False, people=["ann 0 0 1 1", "ann 1 1 1 1"])
        self.check(False, people=["ann 0 0 1"])

    def test_sentences(self):
        rows = [f"{name} 1 3" for name in "gfedcba"]
        for many in range(8):
            self.check(many <= 6, sentences=rows[:many])
        self.check(False, sentences=["a 1 3", "b 1 3", "a 1 3"])
        self.check(False, sentences=["a 1 3", "a 2 0 3"])
        self.check(True, sentences=["ann 1 3"])
        self.check(False, sentences=["a 1 0 1 2"])
        self.check(False, sentences=["a 1 3 4"])

    def test_goals(self):
        for many in range(1, 9):
            self.check(many <= 6, goals=(["ann yes", "ann no"] * 4)[:many])
        self.check(False, goals=["ann yes", "bob yes"])
        self.check(False, goals=["ann ann bob no"])
        self.check(True, goals=["ann ann ann no"])

    def test_worlds(self):
        for count in range(10):
            people = [f"ann{' 0' * max(count, 1)}"]
            for real in range(10):
                self.check(2 <= count <= 8 and real < count, count=f"{count} {real}", people=people, fact="")

    def test_facts(self):
        for world in range(10):
            self.check(world < 4, fact=f" {world}")


class Refused(TextCase):
    def test_what_is_no_string(self):
        values = [value for value in other_kinds() if not isinstance(value, str)]
        for value in values + [EXAMPLE.encode(), [EXAMPLE], EXAMPLE.split("\n"), example(), str]:
            with self.subTest(kind=type(value)), self.assertRaises(BadText) as caught:
                read_scene(value)
            self.assertEqual(caught.exception.row, 0)

    def test_strings_of_other_characters(self):
        for text in ("ann", "Ann\n", "\u00e4\n", "\ud800\n", "\x00", "\x00\n", "worlds\n", "{}\n", "0\n", " \n"):
            self.compare(text)

    def test_long_texts(self):
        self.refuse(1000, "worlds 2 0\n" + "person a 0 0\n" * 999)
        self.refuse(0, "worlds 2 0\n" + "person a 0 0\n" * 999 + "fact\ngoal a yes\n")
        self.refuse(0, "worlds 2 0\nperson a" + " 0" * 10000 + "\nfact\ngoal a yes\n")
        self.refuse(0, "worlds 2 0\nperson a 0 0\nfact\n" + "goal a yes\n" * 1000)


if __name__ == "__main__":
    unittest.main()
