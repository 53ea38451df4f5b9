"""[5], [22] to [28], [36] What is sure, out and pending, against a slow second way."""

import unittest

from keptnomore.errors import Refused
from keptnomore.houses import House
from keptnomore.kinds import Kinds
from keptnomore.questions import Question
from keptnomore.rules import Rules
from keptnomore.spaces import Space
from keptnomore.trees import Tree, events_of
from tests.drawn import CLOSE, Slow, depth_of, drawn_events, drawn_space, names_of, seeded


class Checked:
    """A house beside which the slow way looks at each event."""

    def __init__(self, test, space, most):
        self.test = test
        self.space = space
        self.slow = Slow(space)
        self.house = House(space)
        self.most = most
        self.past = []
        self.sure = set()
        self.unshown = 0

    def take(self, event):
        if not depth_of(self.past):
            self.past, self.sure = [], set()
        told = self.house.take(event)
        self.past.append(event)
        self.test.assertEqual(told, sorted(set(told)))
        self.test.assertFalse(self.sure & set(told))
        self.sure |= set(told)
        self.check_pending()
        self.check_documents()
        self.check_names()

    def opened(self):
        return [event[2] for event in self.past if len(event) == 3]

    def check_pending(self):
        """Each pending node has a going on of each sort."""
        test, pending = self.test, self.house.pending()
        test.assertEqual(pending, sorted(set(pending)))
        test.assertFalse(self.sure & set(pending))
        test.assertLessEqual({mark for _, mark in pending}, set(self.opened()))
        for question, mark in pending:
            paper = self.house.why(question, mark, free=1000)
            test.assertTrue(paper.holds(self.space, self.past))
        heaps = self.house.heaps()
        test.assertEqual(heaps, sorted(heaps))
        test.assertEqual(sorted((question, mark) for question, marks in heaps for mark in marks), pending)
        test.assertTrue(all(isinstance(marks, tuple) and marks == tuple(sorted(marks)) for _, marks in heaps))
        if not depth_of(self.past):
            test.assertEqual(pending, [])

    def check_documents(self):
        """In all going ons what is sure is selected, what is out is not, and a heap's nodes go together."""
        pending = set(self.house.pending())
        out = {(question, mark) for question in range(len(self.space)) for mark in self.opened()} - pending - self.sure
        heaps = self.house.heaps()
        ending = self.house.ending(free=1000)
        parted = set()
        fewest = {}
        found = []
        for many in range(self.most + 1):
            for row, tree in self.slow.wholes(self.past, many):
                picked = self.slow.picked(tree)
                found.append(len(row))
                self.test.assertTrue(all(mark in picked[question] for question, mark in self.sure), (self.past, row))
                self.test.assertFalse(any(mark in picked[question] for question, mark in out), (self.past, row))
                for question, mark in pending:
                    fewest.setdefault((question, mark, mark in picked[question]), len(row))
                bits = []
                for question, marks in heaps:
                    ways = {mark in picked[question] for mark in marks}
                    self.test.assertEqual(len(ways), 1)
                    bits.append(ways.pop())
                parted |= {(one, two) for one in range(len(heaps)) for two in range(one) if bits[one] != bits[two]}
        if found:
            self.test.assertEqual(len(ending), min(found))
        else:
            self.test.assertGreater(len(ending), 2 * self.most)
        for question, mark in pending:
            paper = self.house.why(question, mark, free=1000)
            for is_yes, row in ((True, paper.yes), (False, paper.no)):
                few = fewest.get((question, mark, is_yes))
                self.test.assertTrue(len(row) == few if few else len(row) > 2 * self.most + depth_of(self.past))
        self.unshown += len([1 for one in range(len(heaps)) for two in range(one)
                             if heaps[one][0] == heaps[two][0] and (one, two) not in parted])

    def check_names(self):
        """An event is refused exactly if there is no going on behind it."""
        base = self.past if depth_of(self.past) else []
        for event in [("open", name, 500) for name in names_of(self.space)] + [CLOSE]:
            other = self.house.copied()
            try:
                other.take(event)
            except Refused:
                if depth_of(base + [event]) >= 0:
                    for many in range(self.most):
                        self.test.assertEqual(list(self.slow.wholes(base + [event], many)), [])
                continue
            tree = Tree.from_events(base + [event] + list(other.ending(free=600)))
            self.test.assertTrue(self.space.rules.lets(self.space.kinds, tree))


class Drawn(unittest.TestCase):
    def check(self, word, seeds, steps, nodes, **more):
        unshown = 0
        for seed in seeds:
            rng = seeded(word, seed)
            space = drawn_space(rng, **more)
            checked = Checked(self, space, nodes)
            for event in drawn_events(rng, checked.house, steps):
                with self.subTest(f"{word} {seed}: {space.kinds} | {space.rules} | "
                                  + " | ".join(str(question) for question in space.questions)):
                    checked.take(event)
            unshown += checked.unshown
        return unshown

    def test_small_spaces(self):
        self.check("small", range(60), 6, 2, most=24)

    def test_one_name(self):
        self.check("one name", range(40), 8, 3, names="a", kinds="AB", most=48)

    def test_great_spaces(self):
        self.check("great", range(40), 6, 2, most=192, questions=(1, 3))

    def test_longer_pasts(self):
        self.check("longer", range(12), 16, 1, most=96, questions=(2, 3))

    def test_heaps_are_parted_by_documents(self):
        self.assertEqual(self.check("heaps", range(15), 5, 3, kinds="AB", most=16), 0)


def space_of(kinds, rules="", *questions):
    return Space(Kinds.read(kinds), Rules.read(rules), [Question.read(text) for text in questions])


class Each(unittest.TestCase):
    """Every atom, with rows whose telling is worked out by hand: pairs of a word and what it tells."""

    def check(self, kinds, rules, questions, row):
        checked = Checked(self, space_of(kinds, rules, *questions), 2)
        words = row.split(" ")
        told = [words[at + 1] for at in range(len(words) - 1) if words[at + 1].startswith("!")]
        at = 0
        found = []
        while at < len(words):
            event = events_of(words[at])[0]
            expected = []
            at += 1
            while at < len(words) and words[at].startswith("!"):
                question, mark = words[at][1:].split(".")
                expected.append((int(question), int(mark)))
                at += 1
            before = set(checked.sure) if depth_of(checked.past) else set()
            checked.take(event)
            self.assertEqual(sorted(checked.sure - before), expected, (row, event))
            found += expected
        self.assertEqual(len(found) >= len(told), True)

    def test_atoms_of_kinds(self):
        for atom, row in (
                ("some B", "x:1 x:2 / b:3 !0.1 / /"), ("not some B", "x:1 x:2 / !0.2 / !0.1"),
                ("every B", "x:1 b:2 / !0.2 / !0.1"), ("every B", "x:1 x:2 / !0.2 /"), ("not every B", "x:1 x:2 !0.1 / /"),
                ("first B", "x:1 b:2 !0.1 / x:3 / /"), ("first B", "x:1 x:2 / b:3 / /"),
                ("last B", "x:1 b:2 / x:3 / b:4 / / !0.1"), ("not last B", "x:1 b:2 / !0.2 x:3 / !0.3 / !0.1"),
                ("B then C", "x:1 b:2 / x:3 / c:4 !0.1 / /"), ("B next C", "x:1 b:2 / x:3 / c:4 / b:5 / c:6 !0.1 / /"),
                ("C then C", "x:1 c:2 / c:3 !0.1 / /"), ("C next B", "x:1 c:2 / x:3 / b:4 / /"),
                ("count B mod 2 is 1", "x:1 b:2 / b:3 / b:4 / / !0.1"), ("count B mod 3 is 2", "x:1 b:2 / b:3 / / !0.1"),
                ("count B mod 3 is 0", "x:1 b:2 / !0.2 /"), ("below B", "x:1 x:2 x:3 b:4 !0.1 !0.2 !0.3 / / / /")):
            with self.subTest(f"{atom}: {row}"):
                self.check(f"kind A of any where {atom}\nkind B of b\nkind C of c", "", ["is A"], row)

    def test_atoms_of_questions(self):
        for question, row in (
                ("is B", "x:1 b:2 !0.2 / /"), ("root", "x:1 !0.1 x:2 / /"), ("not root", "x:1 x:2 !0.2 / /"),
                ("earlier B", "x:1 x:2 / b:3 / x:4 !0.4 / b:5 !0.5 / /"), ("not earlier B", "x:1 !0.1 x:2 !0.2 / b:3 !0.3 / c:4 / /"),
                ("later B", "x:1 x:2 / x:3 / b:4 !0.2 !0.3 / /"), ("not later B", "x:1 !0.1 x:2 / x:3 b:4 / / !0.4 / !0.2 !0.3"),
                ("parent is B", "b:1 x:2 !0.2 x:3 / b:4 x:5 !0.5 / / / /"), ("not parent is B", "b:1 !0.1 x:2 x:3 !0.3 / / /"),
                ("above is B", "x:1 b:2 x:3 !0.3 x:4 !0.4 / / / /"), ("above later B", "x:1 x:2 x:3 x:4 / / / b:5 !0.3 !0.4 / /"),
                ("parent later B", "x:1 x:2 x:3 x:4 / / / b:5 !0.3 / /"),
                ("parent ( is B and root )", "b:1 b:2 !0.2 b:3 / / /"), ("above not later B", "x:1 x:2 !0.2 / b:3 !0.3 / /"),
                ("parent parent root", "x:1 x:2 x:3 !0.3 x:4 / / / /"),
                ("parent ( earlier B and not later B )", "x:1 b:2 x:3 / / x:4 x:5 / / / !0.5"),
                ("above ( is C and above is B )", "b:1 c:2 x:3 !0.3 / / /"), ("above above is B", "b:1 x:2 x:3 !0.3 / / /")):
            with self.subTest(f"{question}: {row}"):
                self.check("kind A of a\nkind B of b\nkind C of c", "", [question], row)

    def test_rules_make_nodes_sure_early(self):
        kinds = "kind A of any where some B\nkind B of b\nkind C of any where every B or last C"
        self.check(kinds, "root A", ["is A", "later B"], "x:1 !0.1 x:2 !1.2 / b:3 / /")
        self.check("kind A of a where some A or every B\nkind B of b", "all A", ["is A", "not later B"],
                   "a:1 !0.1 !1.1 a:2 !0.2 !1.2 / /")
        self.check("kind A of any where count B mod 2 is 0\nkind B of b", "root A", ["later B"],
                   "x:1 b:2 !0.2 / x:3 !0.3 / b:4 / /")

    def test_nothing_is_told_twice_or_later(self):
        self.check("kind A of a\nkind B of b", "", ["is A or later B", "is A and later B"],
                   "x:1 a:2 !0.2 / b:3 !1.2 / b:4 !0.3 / /")


class Chances(unittest.TestCase):
    """[35] hopes, by all going ons with a few nodes."""

    def test_hopes(self):
        missed = 0
        for seed in range(40):
            rng = seeded("hopes", seed)
            space = drawn_space(rng, questions=(1, 3))
            slow = Slow(space)
            house = House(space)
            past = drawn_events(rng, house, rng.randint(1, 6))
            sure = {(question, mark) for _, question, mark in house.run(past)}
            hopes = house.hopes()
            if house.is_resting:
                self.assertEqual(hopes, [])
                continue
            met = set()
            for many in range(4):
                for _, tree in slow.wholes(past, many):
                    for question, picked in enumerate(slow.picked(tree)):
                        if any((question, mark) not in sure for mark in picked):
                            met.add(question)
            self.assertLessEqual(met, set(hopes))
            self.assertEqual(hopes, sorted(set(hopes)))
            missed += len(hopes) - len(met)
        self.assertLessEqual(missed, 1)

    def test_hopes_by_hand(self):
        space = space_of("kind A of a\nkind B of b\nkind C of c where some A and not some A", "", "is A", "root", "is C")
        house = House(space)
        self.assertEqual(house.hopes(), [])
        house.take(("open", "x", 1))
        self.assertEqual(house.hopes(), [0])
        space = space_of("kind A of a\nkind B of a b", "all B", "earlier A", "later A", "not is B")
        house = House(space)
        house.run(events_of("a:1"))
        self.assertEqual(house.hopes(), [0, 1])
        space = space_of("kind A of a where not some A\nkind B of a b", "root A", "parent root and later A", "earlier A")
        house = House(space)
        house.run(events_of("a:1 b:2 /"))
        self.assertEqual(house.hopes(), [1])


if __name__ == "__main__":
    unittest.main()
