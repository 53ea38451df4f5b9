"""[41] and [42] Questions and rules compared."""

import unittest

from keptnomore.compared import let_apart, parted, says, stricter
from keptnomore.errors import TooGreat, UnknownKind
from keptnomore.houses import House
from keptnomore.kinds import Kinds
from keptnomore.questions import Question
from keptnomore.rules import Rules
from keptnomore.spaces import Space
from keptnomore.trees import Tree
from tests.drawn import Slow, drawn_events, drawn_kinds, drawn_rules, drawn_space, seeded


def space_of(kinds, rules="", *questions):
    return Space(Kinds.read(kinds), Rules.read(rules), [Question.read(text) for text in questions])


class Questions(unittest.TestCase):
    def check(self, kinds, rules, one, other, expected):
        """`expected` is the number of nodes of the smallest document, or None."""
        with self.subTest(f"{one} | {other}"):
            space = space_of(kinds, rules, one, other)
            tree = parted(space, 0, 1, free=7)
            self.assertIs(says(space, 0, 1), expected is None)
            if expected is None:
                self.assertIsNone(tree)
                return
            self.assertIsInstance(tree, Tree)
            self.assertEqual(len(tree), expected)
            self.assertEqual([node.mark for node in tree], list(range(7, 7 + expected)))
            self.assertTrue(space.rules.lets(space.kinds, tree))
            first, second = [set(question.picks(space.kinds, tree)) for question in space.questions]
            self.assertTrue(first - second)

    def test_by_hand(self):
        two = "kind A of a c\nkind B of b c"
        self.check(two, "", "is A", "is A", None)
        self.check(two, "", "is A", "is B", 1)
        self.check(two, "", "is A and is B", "is B", None)
        self.check(two, "", "parent is A", "above is A", None)
        self.check(two, "", "above is A", "parent is A", 3)
        self.check(two, "", "root", "not earlier A", None)
        self.check(two, "", "later A", "later A and is B", 3)
        self.check(two, "", "above not is A", "parent not is A", 3)
        self.check(two, "", "not root", "earlier A or later B", 2)
        self.check(two, "", "is A or not is A", "root or not root", None)
        self.check(two, "root A\nall A", "is A and root", "is B", 1)
        self.check(two, "root A\nall B", "root", "is A and is B", None)
        self.check("kind A of any where count B mod 3 is 2\nkind B of b", "root A", "root", "is B", 3)
        self.check("kind A of any where count B mod 3 is 2\nkind B of b", "", "parent is A and earlier A", "is B", 6)
        self.check("kind A of any where B next C\nkind B of b\nkind C of c where B then B", "",
                   "above is A and later C", "is C", 5)

    def test_rules_matter(self):
        kinds = "kind A of a\nkind B of any where some A"
        self.check(kinds, "", "is A", "is B", 1)
        self.check(kinds, "root B", "is A", "is B", 2)
        self.check("kind A of a\nkind B of any where every A", "", "is A", "is B", 2)
        self.check("kind A of a\nkind B of any where every A", "all B", "is A", "is B", None)

    def test_a_question_beside_itself(self):
        space = space_of("kind A of a", "", "later A")
        self.assertIs(says(space, 0, 0), True)
        self.assertIs(says(space=space, one=0, other=0), True)
        self.assertIsNone(parted(space=space, one=0, other=0, free=1))
        with self.assertRaises(TypeError):
            parted(space, 0, 0, 1)

    def test_questions_with_two_outer_conditions_each(self):
        space = space_of("kind A of a", "", "parent is A", "above is A and not parent is A")
        self.assertEqual(len(parted(space, 0, 1, free=1)), 2)
        self.assertEqual(len(parted(space, 1, 0, free=1)), 3)
        space = space_of("kind A of a", "", "parent is A or above root", "above is A")
        self.assertEqual(len(parted(space, 0, 1, free=1)), 2)
        self.assertIsNone(parted(space, 1, 0, free=1))

    def test_drawn_questions_against_all_documents(self):
        met = {True: 0, False: 0}
        for seed in range(60):
            space = drawn_space(seeded("says", seed), most=96, questions=(2, 3))
            slow = Slow(space)
            for one in range(len(space)):
                for other in range(len(space)):
                    tree = parted(space, one, other, free=1)
                    self.assertIs(says(space, one, other), tree is None)
                    met[tree is None] += one != other
                    if tree is not None:
                        picked = slow.picked(tree)
                        self.assertTrue(picked[one] - picked[other])
                        self.assertTrue(space.rules.lets(space.kinds, tree))
                    for many in range(1, min(4, 4 if tree is None else len(tree))):
                        for document in slow.documents(many):
                            picked = slow.picked(document)
                            self.assertFalse(picked[one] - picked[other], (seed, one, other, str(document)))
        self.assertGreater(min(met.values()), 30)


class RulesCompared(unittest.TestCase):
    def check(self, kinds, one, other, expected):
        with self.subTest(f"{one} | {other}"):
            kinds, one, other = Kinds.read(kinds), Rules.read(one), Rules.read(other)
            tree = let_apart(kinds, one, other, free=7)
            self.assertIs(stricter(kinds, one, other), expected is None)
            if expected is None:
                self.assertIsNone(tree)
                return
            self.assertIsInstance(tree, Tree)
            self.assertEqual(len(tree), expected)
            self.assertEqual([node.mark for node in tree], list(range(7, 7 + expected)))
            self.assertTrue(one.lets(kinds, tree))
            self.assertFalse(other.lets(kinds, tree))

    def test_by_hand(self):
        two = "kind A of a c\nkind B of b c"
        self.check(two, "", "", None)
        self.check(two, "root A", "", None)
        self.check(two, "", "root A", 1)
        self.check(two, "all A", "root A", None)
        self.check(two, "root A", "all A", 2)
        self.check(two, "all A\nall B", "all B\nroot A", None)
        self.check(two, "all A\nroot B", "all B", 2)
        self.check("kind A of any where count B mod 3 is 2\nkind B of b", "root A", "root B", 3)
        self.check("kind A of any where count B mod 3 is 2\nkind B of b", "root A\nroot B", "all A", 3)
        self.check("kind A of a where some A", "root A", "all B"[:0] + "root A", None)

    def test_rules_that_allow_no_document(self):
        self.check("kind A of a where some A\nkind B of b", "root A", "root B", None)
        self.check("kind A of a where some A\nkind B of b", "root B", "root A", 1)

    def test_exceptions_and_their_order(self):
        kinds = Kinds.read("kind A of a where first A and A then A and A next A and last A and some A and every A")
        known, unknown = Rules.read("root A"), Rules.read("all A\nall B\nall C")
        for work in (stricter, lambda *passed: let_apart(*passed, free=1)):
            for one, other, kind in ((unknown, Rules.read("all D"), "B"), (known, Rules.read("root A\nroot E"), "E")):
                with self.assertRaises(UnknownKind) as caught:
                    work(kinds, one, other)
                self.assertEqual(caught.exception.kind, kind)
            with self.assertRaises(TooGreat) as caught:
                work(kinds, known, known)
            self.assertEqual(caught.exception.product, 27 * 8)
        with self.assertRaises(TypeError):
            let_apart(Kinds.read("kind A of a"), known, known, 1)

    def test_arguments_by_name(self):
        kinds, one, other = Kinds.read("kind A of a"), Rules.read(""), Rules.read("root A")
        self.assertIs(stricter(kinds=kinds, one=one, other=other), False)
        self.assertEqual(len(let_apart(kinds=kinds, one=one, other=other, free=4)), 1)

    def test_drawn_rules_against_all_documents(self):
        met = {True: 0, False: 0}
        for seed in range(80):
            rng = seeded("rules", seed)
            kinds = drawn_kinds(rng)
            one, other = drawn_rules(rng, kinds), drawn_rules(rng, kinds)
            try:
                tree = let_apart(kinds, one, other, free=1)
            except TooGreat:
                continue
            self.assertIs(stricter(kinds, one, other), tree is None)
            met[tree is None] += 1
            slow = Slow(space_of(str(kinds)) if seed % 2 else Space(kinds, Rules.read("")))
            if tree is not None:
                self.assertTrue(one.lets(kinds, tree))
                self.assertFalse(other.lets(kinds, tree))
            for many in range(1, min(4, 4 if tree is None else len(tree))):
                for document in slow.documents(many):
                    self.assertTrue(other.lets(kinds, document) or not one.lets(kinds, document))
        self.assertGreater(min(met.values()), 10)

    def test_with_stricter_rules_no_node_is_told_later(self):
        compared = 0
        for seed in range(60):
            rng = seeded("earlier", seed)
            space = drawn_space(rng, most=48)
            rules = drawn_rules(rng, space.kinds)
            if not stricter(space.kinds, space.rules, rules):
                continue
            row = drawn_events(rng, House(space), 8)
            strict = {(question, mark): at for at, question, mark in House(space).run(row)}
            free = {(question, mark): at
                    for at, question, mark in House(Space(space.kinds, rules, space.questions)).run(row)}
            for pair in free:
                self.assertLessEqual(strict[pair], free[pair])
            compared += len(free)
        self.assertGreater(compared, 20)


if __name__ == "__main__":
    unittest.main()
