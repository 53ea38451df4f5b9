"""[20] and [21] Spaces: what is refused, and in which order; the product; equality."""

import unittest

from keptnomore.errors import NoDocument, TooGreat, TooMany, UnknownKind
from keptnomore.houses import House
from keptnomore.kinds import Kinds
from keptnomore.questions import Question
from keptnomore.rules import Rules
from keptnomore.spaces import Space
from tests.drawn import drawn_kinds, drawn_question, drawn_rules, product_of, seeded


def space_of(kinds="kind A of a\nkind B of b", rules="", questions=()):
    return Space(Kinds.read(kinds), Rules.read(rules), [Question.read(text) for text in questions])


# 3 ** 3 * 2 ** 2, and 3 ** 4 * 2.
GREAT = "kind A of a where first A or A then A and A next A or last A or some A"
THREES = "kind A of a where count A mod 3 is 0 or count A mod 3 is 1 or count A mod 3 is 2 or first A or every A"


class Base(unittest.TestCase):
    def assert_too_great(self, product, *passed):
        with self.assertRaises(TooGreat) as caught:
            space_of(*passed)
        self.assertEqual(caught.exception.product, product)

    def assert_unknown(self, kind, *passed):
        with self.assertRaises(UnknownKind) as caught:
            space_of(*passed)
        self.assertEqual(caught.exception.kind, kind)


class Making(Base):
    def test_what_it_has(self):
        kinds, rules = Kinds.read("kind A of a"), Rules.read("root A")
        questions = [Question.read("is A"), Question.read("root")]
        space = Space(kinds=kinds, rules=rules, questions=questions)
        self.assertTrue(space.kinds == kinds)
        self.assertTrue(space.rules == rules)
        self.assertEqual(space.questions, tuple(questions))
        self.assertIsInstance(space.questions, tuple)
        self.assertEqual(len(space), 2)
        self.assertEqual(len(Space(kinds, rules)), 0)
        self.assertEqual(Space(kinds, rules).questions, ())
        self.assertEqual(Space(kinds, rules, ()).questions, ())
        self.assertEqual(len(Space(kinds, rules, tuple(questions))), 2)

    def test_a_later_change_of_the_list_has_no_effect(self):
        questions = [Question.read("is A")]
        space = Space(Kinds.read("kind A of a"), Rules.read(""), questions)
        questions.append(Question.read("root"))
        questions[0] = Question.read("not root")
        self.assertEqual([str(question) for question in space.questions], ["is A"])

    def test_properties_are_not_assigned(self):
        space = space_of()
        for name in ("kinds", "rules", "questions"):
            with self.assertRaises(AttributeError):
                setattr(space, name, None)

    def test_equality_compares_the_three(self):
        space = space_of("kind A of a", "root A", ["is A"])
        self.assertTrue(space == space_of("kind A of a", "root A", ["is A"]))
        self.assertTrue(space == space_of("kind A of a", "root A", ["( is A )"]))
        for other in (space_of("kind A of b", "root A", ["is A"]), space_of("kind A of a", "", ["is A"]),
                      space_of("kind A of a", "root A", ["not is A"]), space_of("kind A of a", "root A"),
                      space_of("kind A of a", "root A", ["is A", "is A"])):
            self.assertFalse(space == other)
            self.assertTrue(space != other)
        for other in (None, 1, "space", House(space), space.kinds):
            self.assertFalse(space == other)
        self.assertFalse(space_of(questions=["is A", "is B"]) == space_of(questions=["is B", "is A"]))

    def test_a_space_without_kinds(self):
        space = space_of("", "", ["root"])
        self.assertEqual(House(space).may(), ["other"])
        self.assertEqual(House(space).take(("open", "x", 5)), [(0, 5)])


class Refusing(Base):
    def test_too_many_questions(self):
        for many in (4, 7):
            with self.assertRaises(TooMany) as caught:
                space_of(questions=["is A"] * many)
            self.assertEqual(caught.exception.word, "questions")
        self.assertEqual(len(space_of(questions=["is A"] * 3)), 3)

    def test_unknown_kinds(self):
        self.assert_unknown("C", "kind A of a", "all A\nall C\nroot D")
        self.assert_unknown("D", "kind A of a", "", ["is A", "is A and later D or is C", "is E"])
        self.assert_unknown("E", "kind A of a", "", ["above ( is A and parent earlier E )", "is C"])
        self.assert_unknown("C", "kind A of a", "root C", ["is D"])

    def test_no_document(self):
        for kinds, rules in (("kind A of a where some A", "root A"), ("kind A of a where some A", "all A"),
                             ("kind A of a\nkind B of b", "root A\nroot B"),
                             ("kind A of a\nkind B of b where some A", "all B"),
                             ("kind A of a where count A mod 2 is 1", "all A")):
            with self.assertRaises(NoDocument):
                space_of(kinds, rules)
        space_of("kind A of a b\nkind B of b", "root A\nroot B")
        space_of("kind A of a where not some A", "root A")

    def test_the_order_of_exceptions(self):
        never = "root A\nroot B"
        with self.assertRaises(TooMany):
            space_of(GREAT, "all C", ["is D"] * 4)
        self.assert_unknown("C", GREAT, "all C", ["is D"])
        self.assert_unknown("D", GREAT + " or every A", "", ["is D"])
        great = GREAT + " or every A\nkind B of b"
        self.assert_too_great(216, great, never)
        with self.assertRaises(NoDocument):
            space_of(GREAT + "\nkind B of b", never)


class Product(Base):
    def test_limits(self):
        space_of(GREAT)
        self.assert_too_great(216, GREAT + " or below A")
        space_of(THREES)
        self.assert_too_great(324, THREES + " or below A")

    def test_what_the_atoms_count_with(self):
        # 48 by the others: the whole is 192 with 4, and too great with 3 * 3.
        others = "some A or every A or last A or below A or count A mod 3 is 0"
        for atom, weight in (("first A", 3), ("A then A", 3), ("A next A", 3), ("count A mod 3 is 1", 3),
                             ("count A mod 2 is 1", 2), ("some B", 2), ("every B", 2), ("last B", 2), ("below B", 2),
                             ("first B", 3)):
            kinds = f"kind A of a where {others} or {atom}\nkind B of b"
            with self.subTest(atom):
                if 48 * weight <= 144:
                    space_of(kinds)
                self.assert_too_great(48 * weight * 4, kinds, "", ["parent root"])

    def test_unlike_atoms_count_once(self):
        rows = ["kind A of a where " + " or ".join(["some A", "every A", "first B", "last A", "A then B"]),
                "kind B of b where not ( some A and every A ) or first B and last A or A then B or some A"]
        space_of("\n".join(rows))
        self.assert_too_great(72 * 4, "\n".join(rows), "", ["above root"])

    def test_earlier_and_later_kinds_count_once_in_all_questions(self):
        kinds = "kind A of a where first A and A then A and A next A\nkind B of b"
        space_of(kinds, "", ["earlier A and later A", "earlier A or not later A", "earlier A"])
        self.assert_too_great(216, kinds, "", ["earlier A and later A", "not earlier B"])
        self.assert_too_great(27 * 16, kinds, "", ["earlier A and later A", "not earlier B", "later B and later A"])

    def test_outer_conditions_count_in_each_question(self):
        kinds = "kind A of a where first A\nkind B of b"
        space_of(kinds, "", ["parent is A and above is A", "parent is A or parent ( is A )", "above is A"][:2])
        self.assert_too_great(3 * 4 * 4 * 4 * 4, kinds, "", ["parent is A or above is B"] * 2)
        self.assert_too_great(3 * 4 * 4 * 4 * 4, kinds, "", ["parent above is B", "parent is A or above is B"])
        space_of("kind A of a where first A", "", ["parent is A", "parent is A", "above is A"])
        self.assert_too_great(3 * 3 * 64, "kind A of a where first A and A then A", "", ["parent is A"] * 3)

    def test_earlier_within_an_outer_condition_counts(self):
        kinds = "kind A of a where first A and A then A and A next A"
        space_of(kinds, "", ["parent is A"])
        self.assert_too_great(27 * 8, kinds, "", ["parent earlier A"])
        self.assert_too_great(27 * 8, kinds, "", ["above later A"])
        self.assert_too_great(27 * 16, kinds, "", ["above ( later A and earlier A )"])

    def test_drawn_spaces(self):
        rng = seeded("products")
        met = {True: 0, False: 0}
        for _ in range(400):
            kinds = drawn_kinds(rng)
            rules = drawn_rules(rng, kinds)
            questions = [drawn_question(rng, kinds) for _ in range(rng.randint(0, 3))]

            class Parts:
                pass

            Parts.kinds, Parts.questions = kinds, questions
            product = product_of(Parts)
            met[product <= 192] += 1
            try:
                Space(kinds, rules, questions)
                self.assertLessEqual(product, 192)
            except TooGreat as error:
                self.assertEqual(error.product, product)
                self.assertGreater(product, 192)
            except NoDocument:
                self.assertLessEqual(product, 192)
        self.assertGreater(min(met.values()), 20)


if __name__ == "__main__":
    unittest.main()
