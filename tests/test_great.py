"""[3] Spaces at the limit of [21], deep and long rows, and many pending nodes; [2] what is asked changes nothing."""

import time
import unittest

from keptnomore.bundles import Bundle
from keptnomore.compared import parted, says
from keptnomore.errors import TooGreat
from keptnomore.houses import House
from keptnomore.kinds import Kinds
from keptnomore.partings import width
from keptnomore.questions import Question
from keptnomore.rules import Rules
from keptnomore.spaces import Space
from tests.drawn import CLOSE, drawn_space, names_of, product_of, seeded

SHORT = 20
NAMES = "kind A of a b c d\nkind B of b d e f\nkind C of c d f g\nkind D of any where "

# Kinds, rules, questions; the products are from 96 to 192.
GREAT = (
    (NAMES + "( count A mod 3 is 1 or count B mod 2 is 1 ) and ( last C or count C mod 2 is 1 )"
     " or count D mod 2 is 1 and last A and last B", "root D", ["is D", "is C or is D", "not is D"]),
    (NAMES + "( count A mod 3 is 1 or count B mod 2 is 1 ) and last C or count D mod 2 is 1 and last A", "",
     ["parent ( is D or is A and is B ) and not is B", "is D"]),
    (NAMES + "( count A mod 3 is 1 or count B mod 2 is 1 ) and last C or count D mod 2 is 1", "",
     ["parent ( is D or is A and earlier B ) and not is B", "is D"]),
    (NAMES + "( count A mod 3 is 1 or count B mod 2 is 1 ) and last C or count D mod 2 is 1", "root D",
     ["above ( is D or is A and later B ) and not is B", "is D"]),
    (NAMES + "( count A mod 3 is 1 or count B mod 2 is 1 ) and last C", "",
     ["above ( is D and is A ) and parent ( not is B or is D )", "is D"]),
    (NAMES + "last A or count B mod 2 is 1", "", ["later A or later B or later C and parent is D", "is A or is D"]),
    (NAMES + "count A mod 3 is 0", "", ["above ( is D and is A ) and is B", "parent ( not is B or is D )",
                                        "above ( is D and is C ) or is D"]),
    (NAMES + "( count A mod 3 is 1 or count B mod 2 is 1 ) and last C or count D mod 2 is 1", "",
     ["later D and later A or later B and is A", "is D and not later D"]),
    (NAMES + "( count A mod 3 is 1 or count B mod 2 is 1 ) and last C or count D mod 2 is 1", "",
     ["earlier D and earlier A or earlier B and is A", "is D and not earlier D"]),
    ("kind A of a b where below B or not below C\nkind B of b c\nkind C of c d where below D"
     "\nkind D of a d other where not below A", "", ["later D and parent is B"]),
)


def space_of(kinds, rules, questions):
    return Space(Kinds.read(kinds), Rules.read(rules), [Question.read(text) for text in questions])


class Great(unittest.TestCase):
    def setUp(self):
        self.began = time.perf_counter()

    def tearDown(self):
        self.assertLess(time.perf_counter() - self.began, SHORT)

    def ask(self, house, past):
        """Asks all that can be asked of a house, which stays as it is."""
        kept = house.kept()
        pending = house.pending()
        asked = [house.heaps(), house.may(), house.hopes(), house.ending(free=10 ** 6), house.depth]
        self.assertEqual([house.heaps(), house.may(), house.hopes(), house.ending(free=10 ** 6), house.depth], asked)
        for question, mark in pending[:3] + pending[-3:]:
            paper = house.why(question, mark, free=10 ** 6)
            self.assertTrue(paper.holds(house.space, past))
        other = House.read(house.space, kept)
        self.assertEqual(other.kept(), kept)
        self.assertIsNone(house.parting(other, free=10 ** 6))
        for number in range(len(house.space)):
            self.assertEqual(house.without(number).depth, house.depth)
        other.run(other.ending(free=10 ** 6))
        self.assertIs(other.is_resting, True)
        with house.trial() as same:
            same.run(asked[3])
            self.assertIs(house.is_resting, True)
        self.assertIs(house.is_alike(house.copied()), True)
        self.assertEqual((house.kept(), house.pending()), (kept, pending))

    def drawn_open(self, rng, house, mark):
        words = [word for word in house.may() if word != "/"]
        event = ("open", rng.choice(words).replace("other", "zz"), mark)
        house.take(event)
        return [event]

    def test_the_spaces_are_great(self):
        for kinds, rules, questions in GREAT:
            self.assertLessEqual(96, product_of(space_of(kinds, rules, questions)))
            with self.assertRaises(TooGreat):
                more = questions[2:] or ["parent root"]
                space_of(kinds, rules, questions[:2] + [f"( {more[0]} ) and above earlier A"])

    def test_deep_rows(self):
        for number, (kinds, rules, questions) in enumerate(GREAT):
            rng = seeded("deep", number)
            house = House(space_of(kinds, rules, questions))
            past = []
            began = time.perf_counter()
            for depth in range(40):
                for leaf in range(2 if depth else 0):
                    past.extend(self.drawn_open(rng, house, 100 + 10 * depth + leaf))
                    if "/" in house.may() and house.depth > 1:
                        past.append(CLOSE)
                        house.take(CLOSE)
                if house.depth < 40:
                    past.extend(self.drawn_open(rng, house, depth))
            self.assertLess(time.perf_counter() - began, 5)
            with self.subTest(questions):
                self.ask(house, past)

    def test_long_rows(self):
        for number, (kinds, rules, questions) in enumerate(GREAT):
            rng = seeded("long", number)
            house = House(space_of(kinds, rules, questions))
            past = self.drawn_open(rng, house, 0)
            for mark in range(1, 200):
                past.extend(self.drawn_open(rng, house, mark))
                house.take(CLOSE)
                past.append(CLOSE)
            with self.subTest(questions):
                self.ask(house, past)

    def test_every_node_is_pending(self):
        # Each node of a long row, and each open node.
        house = House(space_of("kind A of a\nkind B of any where some A", "",
                               ["later A", "above is B", "not later A and above later A"]))
        past = [("open", "x", 0)]
        for mark in range(1, 199):
            past.extend([("open", "x", mark), CLOSE])
        house.run(past)
        self.assertEqual(len(house.pending()), 198 * 2)
        self.assertEqual(house.heaps(), [(0, tuple(range(1, 199))), (1, tuple(range(1, 199)))])
        self.ask(house, past)
        self.assertEqual(len(house.take(("open", "a", 500))), 198 * 2 + 1)
        house = House(space_of("kind A of any where last B and count C mod 2 is 0\nkind B of b\nkind C of c", "",
                               ["is A", "later B or is A", "above is A"]))
        past = [("open", "x", mark) for mark in range(40)]
        house.run(past)
        self.assertEqual(len(house.pending()), 40 + 40 + 39)
        self.assertEqual(len(house.heaps()), 40 + 40 + 39)
        self.ask(house, past)
        told = house.run([CLOSE] * 40)
        self.assertEqual(told, [])

    def test_comparisons(self):
        for number, (kinds, rules, questions) in enumerate(GREAT):
            rng = seeded("compared", number)
            space = space_of(kinds, rules, questions)
            for one in range(len(space)):
                for other in range(len(space)):
                    tree = parted(space, one, other, free=1)
                    self.assertIs(says(space, one, other), tree is None)
            names = names_of(space)
            row = []
            for mark in range(60):
                row.extend([("open", rng.choice(names), mark), CLOSE])
            first, second = Bundle(space, row), Bundle(space, row[2:] + row[:2])
            for other in (first, second, first.glued(Bundle(space, [("open", "a", 100), CLOSE]))):
                plan = first.unlike(other, free=1000)
                self.assertIs(first.is_like(other), plan is None)
                if plan is not None:
                    House(space).run(plan)

    def test_widths_and_shortest_pasts(self):
        for number, (kinds, rules, questions) in enumerate(GREAT):
            rng = seeded("width", number)
            space = space_of(kinds, rules, questions)
            self.assertEqual(width(space, 0), 1)
            self.assertGreaterEqual(width(space, 2), width(space, 1))
            house = House(space)
            mark = 0
            while house.depth < 3:
                for _ in range(5 if house.depth else 0):
                    self.drawn_open(rng, house, mark)
                    if "/" in house.may():
                        house.take(CLOSE)
                    mark += 1
                if house.depth < 3:
                    self.drawn_open(rng, house, mark)
                    mark += 1
            if house.depth == 3:
                found = house.shortest(free=1)
                other = House(space)
                other.run(found)
                self.assertEqual(other.depth, 3)
                self.assertLessEqual(len(found), 2 * mark)

    def test_ordinary_spaces_are_quick(self):
        for seed in range(20):
            rng = seeded("quick", seed)
            space = drawn_space(rng, most=24, questions=(2, 3))
            began = time.perf_counter()
            house = House(space)
            for mark in range(40):
                self.drawn_open(rng, house, mark)
            text = house.kept()
            self.assertLess(time.perf_counter() - began, 4)
            self.assertEqual(House.read(space, text).kept(), text)

    def test_somewhat_beyond_the_limits(self):
        house = House(space_of("kind A of a\nkind B of any where some A", "", ["later A", "parent is B"]))
        past = [("open", "x", mark) for mark in range(300)]
        house.run(past)
        self.assertEqual(house.depth, 300)
        self.assertEqual(len(house.pending()), 2 * 299)
        other = House.read(house.space, house.kept())
        self.assertEqual(other.kept(), house.kept())
        self.assertTrue(house.why(1, 299, free=10 ** 9).holds(house.space, past))
        self.assertEqual(len(house.ending(free=1)), 300)
        self.assertEqual(house.run([CLOSE] * 300), [])
        self.assertEqual(len(Bundle(house.space, past + [CLOSE] * 300)), 1)


if __name__ == "__main__":
    unittest.main()
