"""[16] to [19] Questions: their texts, what is wrong with texts, how they are joined, and what they select."""

import itertools
import random
import unittest

from keptnomore.errors import KeptError, NoQuestion, TooMany, UnknownKind
from keptnomore.kinds import Kinds
from keptnomore.questions import Question
from keptnomore.trees import Tree

TWO = "kind A of a c\nkind B of b c"


def picks(text, tree, kinds=TWO):
    return Question.read(text).picks(Kinds.read(kinds), Tree.read(tree))


def form_of(text):
    return str(Question.read(text))


class Base(unittest.TestCase):
    def assert_no_question(self, text, at):
        with self.assertRaises(NoQuestion) as caught:
            Question.read(text)
        self.assertEqual(caught.exception.at, at)

    def assert_too_many(self, word, work, *passed):
        with self.assertRaises(TooMany) as caught:
            work(*passed)
        self.assertEqual(caught.exception.word, word)


class Reading(Base):
    def test_questions(self):
        for text in ("is A", "is ABCD", "root", "earlier A", "later A", "not root", "not not root", "is A and root",
                     "is A or root", "parent root", "above is A", "parent not is A", "not parent is A",
                     "above not not earlier B", "parent parent is A", "above parent is A", "parent above is A",
                     "parent not above is A", "parent ( is A and root )", "above ( is A or later B )",
                     "parent not ( is A or root )", "parent ( parent is A and root )", "parent is A and root",
                     "is K", "is IS", "is NOT and is ROOT"):
            with self.subTest(text):
                self.assertEqual(form_of(text), text)
                self.assertEqual(Question.read(text=text), Question.read(text))

    def test_the_first_word_by_which_it_is_no_beginning(self):
        rows = [
            (" ", 0), ("a", 0), ("A", 0), ("?", 0), (")", 0), ("and", 0), ("or root", 0), ("()", 0), ("(root)", 0),
            ("Root", 0), ("roots", 0), ("IS A", 0), ("some A", 0), ("every A", 0), ("count A mod 2 is 0", 0),
            ("A then B", 0), ("A next B", 0), ("first A", 0), ("last A", 0), ("below A", 0), ("where root", 0),
            ("is a", 1), ("is", 1), ("is is", 1), ("is ABCDE", 1), ("is A1", 1), ("is 1", 1), ("is (", 1),
            ("is any", 1),
            ("is root", 1), ("is not A", 1), ("earlier a", 1), ("earlier ( is A )", 1), ("later root", 1),
            ("later later A", 1), ("not", 1), ("not and", 1), ("not )", 1), ("not A", 1), ("(", 1), ("( )", 1),
            ("( and", 1), ("parent", 1), ("above", 1), ("parent A", 1), ("parent )", 1), ("above and", 1),
            ("parent some A", 1), ("root root", 1), ("root is A", 1), ("root )", 1), ("root not", 1), ("root (", 1),
            ("root A", 1), ("root parent", 1), ("root xor root", 1), ("root AND root", 1),
            ("is A B", 2), ("is A is B", 2), ("is A )", 2), ("is A not is B", 2), ("is A above root", 2),
            ("root and", 2), ("root or", 2), ("root and and", 2), ("root and or root", 2), ("root or )", 2),
            ("not not", 2), ("not (", 2), ("( (", 2), ("( root", 2), ("( root is A", 2), ("parent not", 2),
            ("parent (", 2), ("parent ( )", 2), ("parent parent", 2), ("parent root root", 2), ("root and a", 2),
            ("root and is", 3), ("root and is a", 3), ("( root and", 3), ("( root ) )", 3), ("( root ) root", 3),
            ("( root ) (", 3), ("( root and )", 3), ("root and not", 3), ("parent ( root", 3), ("root and ( )", 3),
            ("( root and root", 4), ("( ( root )", 4), ("( is A ) )", 4), ("parent ( root ) )", 4),
            ("( not ( root ) ) and ?", 7), ("( not ( root ) ) and", 7), ("( not ( root ) ) )", 6),
        ]
        for text, at in rows:
            with self.subTest(repr(text)):
                self.assert_no_question(text, at)

    def test_the_empty_text_ends_too_early(self):
        self.assert_no_question("", 0)

    def test_blanks_too_many(self):
        for text, at in ((" root", 0), ("root ", 1), ("is  A", 1), ("is A ", 2), ("is A  and root", 2),
                         ("root and  root", 2), ("( root ) ", 3), ("not  root", 1), ("root  ", 1), ("  ", 0)):
            with self.subTest(repr(text)):
                self.assert_no_question(text, at)

    def test_a_newline_is_a_sign_of_its_word(self):
        for text, at in (("\n", 0), ("root\n", 0), ("\nroot", 0), ("is A\n", 1), ("is\nA", 0), ("is A\nand root", 1),
                         ("is A and\nroot", 2), ("is A\n\nor root", 1), ("root \nand root", 1), ("root and root\n", 2),
                         ("( root \n)", 2)):
            with self.subTest(repr(text)):
                self.assert_no_question(text, at)

    def test_what_stands_behind_parent_and_above(self):
        # It ends with the atom: an `and` behind it is outside.
        self.assertEqual(Question.read("parent is A and root"), Question.read("( parent is A ) and root"))
        self.assertEqual(Question.read("not above is A or root"), Question.read("( not ( above is A ) ) or root"))
        self.assertNotEqual(Question.read("parent ( is A and root )"), Question.read("parent is A and root"))

    def test_no_question_is_a_kept_error(self):
        with self.assertRaises(KeptError):
            Question.read("")


class Limits(Base):
    def test_eight_atoms(self):
        for atom in ("is A", "root", "earlier A", "later A"):
            for joint in (" and ", " or "):
                with self.subTest(atom):
                    eight = joint.join([atom] * 8)
                    self.assertEqual(form_of(eight), eight)
                    self.assert_too_many("atoms", Question.read, f"{eight}{joint}{atom}")

    def test_parent_and_above_are_atoms(self):
        for word in ("parent", "above"):
            four = " and ".join([f"{word} is A"] * 4)
            self.assertEqual(form_of(four), four)
            self.assert_too_many("atoms", Question.read, f"{four} and root")
            self.assert_too_many("atoms", Question.read, f"root or {four}")
            two = f"{word} {word} root and {word} not {word} root and is A"
            self.assert_too_many("outer", Question.read, two)
        self.assertEqual(form_of("above above root and above root and is A and is B and later A"),
                         "above above root and above root and is A and is B and later A")
        self.assert_too_many(
            "atoms", Question.read, "above above root and above root and is A and is B and later A and root")

    def test_six_within_one_another(self):
        for text in ("not " * 6 + "root", "( " * 6 + "root" + " )" * 6, "not ( " * 3 + "root" + " )" * 3,
                     "not not not not not parent root", "parent not not not not not root",
                     "not not parent not not not root",
                     "above ( not ( not ( root ) ) )", "( ( ( ( above ( root ) ) ) ) )",
                     "parent ( not above ( not root ) )",
                     "root and ( is A or not ( not not ( root ) ) and not root ) or not root"):
            with self.subTest(text):
                Question.read(text)
                self.assert_too_many("deep", Question.read, f"( {text} )")
        for text in ("not " * 7 + "root", "( " * 7 + "root" + " )" * 7, "not ( " * 3 + "not root" + " )" * 3,
                     "not not not not not not parent root", "above not not not not not not root",
                     "above ( not ( not ( not root ) ) )", "( ( ( ( ( above ( root ) ) ) ) ) )",
                     "root and not ( not ( not ( is A or not root ) ) )",
                     "( ( root ) and not not not not not not root )",
                     "( not ( root ) and not not not not not not root )", "( parent ( parent ( not ( root ) ) ) )"):
            with self.subTest(text):
                self.assert_too_many("deep", Question.read, text)

    def test_beside_one_another_is_not_within(self):
        text = " and ".join(["( not ( root ) )"] * 8)
        self.assertEqual(form_of(text), " and ".join(["not root"] * 8))
        Question.read("parent not not not root and above not not not root and not not not not not root")

    def test_what_is_closed_is_not_around_what_follows(self):
        Question.read("( ( not ( root ) ) and not ( root ) and not not not not not root )")
        Question.read("not ( not ( root ) and not ( root ) and parent ( root ) and not not not not root )")

    def test_the_depth_is_that_of_the_text_as_it_was_read(self):
        self.assert_too_many("deep", Question.read, "( ( ( ( ( ( ( root ) ) ) ) ) ) )")
        self.assert_too_many("deep", Question.read, "parent ( ( ( ( ( ( is A ) ) ) ) ) )")

    def test_two_unlike_outer_conditions(self):
        for text in ("parent is A and parent is B", "parent is A and above is B", "parent parent is A",
                     "parent is A or above is A or parent is A or above is A", "above above is A and above is A",
                     "parent is A and above ( is A ) and parent ( ( is A ) ) and parent is B",
                     "parent ( is A or ( root or later B ) ) and above ( ( is A or root ) or later B )",
                     "above ( root and ( is A and is B ) ) or parent ( ( root and is A ) and is B )",
                     "parent ( not ( is A ) ) and above not is A", "above ( is A and parent is B )"):
            with self.subTest(text):
                Question.read(text)
        for text in ("parent is A and parent is B and parent root", "above is A or above is B or parent root",
                     "parent parent parent is A", "parent is A and above ( is B and parent root )",
                     "parent ( is A and parent is B ) or parent root", "above ( parent is A and parent is B )",
                     "parent is A and parent not is A and parent not not is A",
                     "parent ( is A and is B ) or parent ( is B and is A ) or parent is A",
                     "parent not parent not parent root"):
            with self.subTest(text):
                self.assert_too_many("outer", Question.read, text)

    def test_the_order_of_the_exceptions(self):
        nine = " or ".join(["root"] * 9)
        deep = "not not not not not not not root"
        outer = "parent parent parent root"
        self.assert_too_many("atoms", Question.read, f"{deep} or {nine}")
        self.assert_too_many("atoms", Question.read, f"{outer} or {nine}")
        self.assert_too_many("deep", Question.read, f"{outer} or {deep}")
        self.assert_too_many("atoms", Question.read, f"{outer} or {deep} or {nine}")
        self.assert_no_question(f"{nine} or", 18)
        self.assert_no_question(f"{deep} a", 8)
        self.assert_no_question(f"{outer} )", 4)

    def test_far_beyond_the_limits(self):
        self.assert_too_many("deep", Question.read, "not " * 100 + "root")
        self.assert_too_many("deep", Question.read, "( " * 100 + "root" + " )" * 100)
        self.assert_too_many("atoms", Question.read, "parent " * 100 + "root")
        self.assert_no_question("( " * 100 + "root" + " )" * 99, 200)
        self.assert_no_question("( " * 100 + "root" + " )" * 101, 201)


class Forms(Base):
    def test_parentheses_only_where_the_meaning_needs_them(self):
        forms = [
            ("( root )", "root"),
            ("( ( ( is A ) ) )", "is A"),
            ("not ( root )", "not root"),
            ("( not root )", "not root"),
            ("not ( not ( root ) )", "not not root"),
            ("( is A and is B ) and root", "is A and is B and root"),
            ("is A and ( is B and root )", "is A and is B and root"),
            ("is A or ( is B or ( root or later A ) )", "is A or is B or root or later A"),
            ("( ( is A or is B ) or root ) or later A", "is A or is B or root or later A"),
            ("( is A and is B ) or root", "is A and is B or root"),
            ("is A or ( is B and root )", "is A or is B and root"),
            ("( is A or is B ) and root", "( is A or is B ) and root"),
            ("is A and ( ( is B or root ) )", "is A and ( is B or root )"),
            ("is A and ( is B or ( root or later A ) )", "is A and ( is B or root or later A )"),
            ("not ( is A and ( is B and root ) )", "not ( is A and is B and root )"),
            ("not ( is A or is B )", "not ( is A or is B )"),
            ("not ( is A ) and is B", "not is A and is B"),
            ("parent ( is A )", "parent is A"),
            ("above ( ( root ) )", "above root"),
            ("( parent is A )", "parent is A"),
            ("parent ( not ( is A ) )", "parent not is A"),
            ("not ( parent is A )", "not parent is A"),
            ("parent ( not ( is A and root ) )", "parent not ( is A and root )"),
            ("parent ( above ( is A ) )", "parent above is A"),
            ("parent ( ( is A and root ) )", "parent ( is A and root )"),
            ("above ( is A or ( root or later B ) )", "above ( is A or root or later B )"),
            ("( above ( is A and root ) ) and ( root )", "above ( is A and root ) and root"),
            ("( parent ( is A ) ) or root", "parent is A or root"),
            ("above ( ( is A and root ) or later B )", "above ( is A and root or later B )"),
            ("above ( is A and ( root or later B ) )", "above ( is A and ( root or later B ) )"),
            ("root or root and root or root", "root or root and root or root"),
        ]
        for text, form in forms:
            with self.subTest(text):
                self.assertEqual(form_of(text), form)
                self.assertEqual(form_of(form), form)
                self.assertIs(Question.read(text) == Question.read(form), True)
                self.assertIs(Question.read(text) != Question.read(form), False)

    def test_unlike_questions(self):
        texts = ["is A and is B", "is B and is A", "is A", "not not is A", "is A and is A", "is A or is B", "root",
                 "parent is A", "above is A", "earlier A", "later A", "is B", "parent not is A", "not parent is A"]
        for one, other in itertools.product(texts, texts):
            with self.subTest(f"{one} == {other}"):
                self.assertIs(Question.read(one) == Question.read(other), one == other)
                self.assertIs(Question.read(one) != Question.read(other), one != other)

    def test_equal_to_no_object_of_another_class(self):
        question = Question.read("root")
        for other in ("root", 1, None, True, ("root",), Kinds.read(""), object()):
            with self.subTest(repr(other)):
                self.assertIs(question == other, False)
                self.assertIs(question != other, True)


class Joined(Base):
    def test_the_example(self):
        one = Question.read("above ( is B and later A )")
        self.assertEqual(str(Question.read("not ( is A or ( is B or root ) )") & one),
                         "not ( is A or is B or root ) and above ( is B and later A )")

    def test_joined(self):
        rows = [
            ("is A", "is B", "is A and is B", "is A or is B"),
            ("is B", "is A", "is B and is A", "is B or is A"),
            ("root", "root", "root and root", "root or root"),
            ("is A and is B", "root", "is A and is B and root", "is A and is B or root"),
            ("root", "is A and is B", "root and is A and is B", "root or is A and is B"),
            ("is A or is B", "root", "( is A or is B ) and root", "is A or is B or root"),
            ("root", "is A or is B", "root and ( is A or is B )", "root or is A or is B"),
            ("is A or is B", "root or later A", "( is A or is B ) and ( root or later A )",
             "is A or is B or root or later A"),
            ("is A and is B", "root and later A", "is A and is B and root and later A",
             "is A and is B or root and later A"),
            ("not is A", "parent ( is A or root )", "not is A and parent ( is A or root )",
             "not is A or parent ( is A or root )"),
        ]
        for one, other, both, either in rows:
            with self.subTest(f"{one} with {other}"):
                self.assertEqual(str(Question.read(one) & Question.read(other)), both)
                self.assertEqual(str(Question.read(one) | Question.read(other)), either)
                self.assertEqual(Question.read(one) & Question.read(other), Question.read(both))
                self.assertIsInstance(Question.read(one) | Question.read(other), Question)

    def test_denied(self):
        rows = [("root", "not root"), ("not root", "not not root"), ("is A and root", "not ( is A and root )"),
                ("is A or root", "not ( is A or root )"), ("parent is A", "not parent is A"),
                ("above ( is A and root )", "not above ( is A and root )"),
                ("not ( is A or root )", "not not ( is A or root )")]
        for text, denied in rows:
            with self.subTest(text):
                self.assertEqual(str(~Question.read(text)), denied)
                self.assertEqual(~Question.read(text), Question.read(denied))
                self.assertIsInstance(~Question.read(text), Question)

    def test_the_questions_stay_unchanged(self):
        one, other = Question.read("is A and is B"), Question.read("root or later A")
        one & other, one | other, ~one, ~other, other & one, other | one
        self.assertEqual((str(one), str(other)), ("is A and is B", "root or later A"))

    def test_too_many_atoms(self):
        four, five = (Question.read(" and ".join(["root"] * many)) for many in (4, 5))
        self.assertEqual(str(four & four), " and ".join(["root"] * 8))
        self.assertEqual(str(four | four).count("root"), 8)
        self.assert_too_many("atoms", lambda: four & five)
        self.assert_too_many("atoms", lambda: five | four)
        above = Question.read("above is A and parent is A")
        self.assertEqual(str(above & four), "above is A and parent is A and root and root and root and root")
        self.assert_too_many("atoms", lambda: above & five)
        self.assert_too_many("atoms", lambda: five | above)

    def test_too_deep(self):
        six = Question.read("not not not not not not root")
        self.assert_too_many("deep", lambda: ~six)
        self.assertEqual(str(six & six), f"{six} and {six}")
        self.assertEqual(str(six | six), f"{six} or {six}")
        five = Question.read("not not not not not root")
        self.assertEqual(str(~five), str(six))

    def test_parentheses_that_joining_needs_count(self):
        either = Question.read("is A or not not not not not not root")
        both = Question.read("is A and not not not not not root")
        root = Question.read("root")
        self.assertEqual(str(either | root), f"{either} or root")
        self.assertEqual(str(both & root), f"{both} and root")
        self.assertEqual(str(both | root), f"{both} or root")
        self.assert_too_many("deep", lambda: either & root)
        self.assert_too_many("deep", lambda: root & either)
        self.assert_too_many("deep", lambda: ~both)
        self.assert_too_many("deep", lambda: ~Question.read("not not not not not ( root or is A )"))
        self.assertEqual(str(~Question.read("not not not not ( root or is A )")),
                         "not not not not not ( root or is A )")

    def test_the_depth_is_that_of_the_form(self):
        # As it was read, six parentheses are within one another; the form has none.
        question = Question.read("( ( ( ( ( ( root ) ) ) ) ) )")
        self.assertEqual(str(~question), "not root")
        self.assertEqual(str(~~~~~~question), "not not not not not not root")
        wrapped = Question.read("parent ( ( ( ( is A ) ) ) )")
        self.assertEqual(str(~~~wrapped), "not not not parent is A")
        self.assertEqual(str(~~~~~wrapped), "not not not not not parent is A")
        self.assert_too_many("deep", lambda: ~~~~~~wrapped)

    def test_too_many_outer_conditions(self):
        one, two = Question.read("parent is A"), Question.read("above is B and parent is A")
        three = Question.read("parent ( ( later A ) )")
        self.assertEqual(str(one & two), "parent is A and above is B and parent is A")
        self.assertEqual(str(one | three), "parent is A or parent later A")
        self.assert_too_many("outer", lambda: two & three)
        self.assert_too_many("outer", lambda: three | two)
        self.assertEqual(str(~two), "not ( above is B and parent is A )")

    def test_the_order_of_the_exceptions(self):
        nested = Question.read("parent is A and parent is B and not not not not not not root")
        other = Question.read("parent later A or not not not not not not is A")
        self.assert_too_many("atoms", lambda: nested & nested)
        self.assert_too_many("deep", lambda: nested & other)
        self.assert_too_many("outer", lambda: nested | other)


class Picks(Base):
    def test_the_example(self):
        question = Question.read("above ( is B and later A )")
        two = Kinds.read("kind A of a\nkind B of b")
        self.assertEqual(question.picks(two, Tree.read("r:1 b:2 x:3 / / a:4 / /")), [3])
        self.assertEqual(question.picks(kinds=two, tree=Tree.read("r:1 b:2 x:3 / / a:4 / /")), [3])

    def test_is_and_root(self):
        tree = "a:1 b:2 / c:3 d:4 / / /"
        self.assertEqual(picks("is A", tree), [1, 3])
        self.assertEqual(picks("is B", tree), [2, 3])
        self.assertEqual(picks("root", tree), [1])
        self.assertEqual(picks("not root", tree), [2, 3, 4])
        self.assertEqual(picks("is A and not root", tree), [3])
        self.assertEqual(picks("root or is B", tree), [1, 2, 3])
        self.assertEqual(picks("root and is B", tree), [])

    def test_is_looks_at_conditions(self):
        kinds = "kind A of a\nkind B of any where some A and not last A"
        self.assertEqual(picks("is B", "r:1 a:2 / b:3 a:4 / / /", kinds), [1])

    def test_earlier_and_later(self):
        tree = "a:1 d:2 / a:3 / d:4 / b:5 a:6 / b:7 / / d:8 / /"
        self.assertEqual(picks("earlier A", tree), [4, 5, 7, 8])
        self.assertEqual(picks("later A", tree), [2])
        self.assertEqual(picks("earlier B", tree), [8])
        self.assertEqual(picks("later B", tree), [2, 3, 4, 6])

    def test_a_node_is_no_sibling_of_itself(self):
        self.assertEqual(picks("earlier A", "d:1 a:2 / a:3 / a:4 / /"), [3, 4])
        self.assertEqual(picks("later A", "d:1 a:2 / a:3 / a:4 / /"), [2, 3])

    def test_the_root_has_no_siblings(self):
        for text in ("earlier A", "later A", "earlier B", "later B"):
            self.assertEqual(picks(text, "c:1 /"), [])

    def test_siblings_are_those_of_the_same_parent(self):
        tree = "d:1 d:2 a:3 / / d:4 d:5 / / /"
        self.assertEqual(picks("earlier A", tree), [])
        self.assertEqual(picks("later A", "d:1 d:2 d:3 / / d:4 a:5 / / /"), [])

    def test_parent(self):
        tree = "a:1 b:2 d:3 d:4 / / / d:5 / /"
        self.assertEqual(picks("parent is A", tree), [2, 5])
        self.assertEqual(picks("parent is B", tree), [3])
        self.assertEqual(picks("parent root", tree), [2, 5])
        self.assertEqual(picks("parent parent is A", tree), [3])
        self.assertEqual(picks("parent not is A", tree), [3, 4])
        self.assertEqual(picks("not parent is A", tree), [1, 3, 4])
        self.assertEqual(picks("parent ( is B and not root )", tree), [3])
        self.assertEqual(picks("parent later A", "d:1 b:2 d:3 / / a:4 d:5 / / /"), [3])
        self.assertEqual(picks("parent earlier B", "d:1 b:2 d:3 / / a:4 d:5 / / /"), [5])

    def test_above(self):
        tree = "d:1 a:2 d:3 d:4 / b:5 d:6 / / / / d:7 / /"
        self.assertEqual(picks("above is A", tree), [3, 4, 5, 6])
        self.assertEqual(picks("above is B", tree), [6])
        self.assertEqual(picks("above root", tree), [2, 3, 4, 5, 6, 7])
        self.assertEqual(picks("above not root", tree), [3, 4, 5, 6])
        self.assertEqual(picks("above above is A", tree), [4, 5, 6])
        self.assertEqual(picks("parent above is A", tree), [4, 5, 6])
        self.assertEqual(picks("above parent is A", tree), [4, 5, 6])
        self.assertEqual(picks("above ( is A and root )", tree), [])
        self.assertEqual(picks("above later D", tree, "kind D of d"), [3, 4, 5, 6])

    def test_above_looks_at_one_node_at_a_time(self):
        tree = "a:1 b:2 d:3 / / /"
        self.assertEqual(picks("above ( is A and is B )", tree), [])
        self.assertEqual(picks("above is A and above is B", tree), [3])
        self.assertEqual(picks("above ( is A or is B )", tree), [2, 3])
        self.assertEqual(picks("not above is A", tree), [1])
        self.assertEqual(picks("above not is A", tree), [3])

    def test_at_the_root(self):
        for text in ("parent root", "above root", "parent not root", "above not root", "parent is A", "above is A",
                     "parent not is A", "above not above root", "parent not parent root"):
            with self.subTest(text):
                self.assertEqual(picks(text, "a:1 /"), [])
                self.assertEqual(picks(f"not {text}", "a:1 /"), [1])

    def test_ascending(self):
        self.assertEqual(picks("is A", "a:30 a:4 / a:100 a:0 / / a:7 / /"), [0, 4, 7, 30, 100])

    def test_a_new_list_at_each_call(self):
        question, kinds, tree = Question.read("root"), Kinds.read(""), Tree.read("a:1 /")
        first = question.picks(kinds, tree)
        first.append(5)
        self.assertEqual(question.picks(kinds, tree), [1])
        self.assertIs(type(question.picks(kinds, tree)), list)

    def test_nothing_that_is_passed_is_changed(self):
        question, kinds = Question.read("above is A or later B"), Kinds.read(TWO)
        tree = Tree.read("a:1 d:2 / b:3 / /")
        for _ in range(2):
            self.assertEqual(question.picks(kinds, tree), [2, 3])
        self.assertEqual((str(question), str(kinds), str(tree)), ("above is A or later B", TWO, "a:1 d:2 / b:3 / /"))

    def test_unknown_kinds(self):
        tree = Tree.read("a:1 /")
        rows = [
            ("is C", "", "C"), ("is C", TWO, "C"), ("is A and is D or is C", TWO, "D"), ("earlier C", TWO, "C"),
            ("later C", TWO, "C"), ("parent is C", TWO, "C"), ("above ( is A or later C )", TWO, "C"),
            ("not is C", TWO, "C"), ("is Z and is A", TWO, "Z"), ("above is Z and is Y", TWO, "Z"),
            ("is AB", TWO, "AB"), ("is A", "kind AB of a", "A"), ("root or ( is B and is Y ) or is X", TWO, "Y"),
        ]
        for text, kinds, kind in rows:
            with self.subTest(text):
                with self.assertRaises(UnknownKind) as caught:
                    Question.read(text).picks(Kinds.read(kinds), tree)
                self.assertEqual(caught.exception.kind, kind)
        self.assertEqual(picks("root", "a:1 b:2 / /", ""), [1])
        self.assertEqual(picks("parent root", "a:1 b:2 / /", ""), [2])

    def test_joined_questions_pick_as_told(self):
        kinds, tree = Kinds.read(TWO), Tree.read("a:1 b:2 / c:3 d:4 / / /")
        one, other = Question.read("is A or root"), Question.read("is B")
        self.assertEqual((one & other).picks(kinds, tree), [3])
        self.assertEqual((one | other).picks(kinds, tree), [1, 2, 3])
        self.assertEqual((~one).picks(kinds, tree), [2, 4])
        self.assertEqual((~(one & other)).picks(kinds, tree), [1, 2, 4])


class Node:
    """A node with its surroundings, for the answers that the questions are compared with."""

    def __init__(self, tree, kinds, parent=None):
        self.mark = tree.mark
        self.kinds = kinds.of(tree)
        self.parent = parent
        self.children = [Node(child, kinds, self) for child in tree.children]

    def all(self):
        return [self] + [node for child in self.children for node in child.all()]

    def siblings(self):
        return self.parent.children if self.parent else [self]

    def over(self):
        return [self.parent] + self.parent.over() if self.parent else []


def random_question(chance, depth):
    """A text, its form, its loosest joint (0 an atom or not, 1 and, 2 or), and what tells of a Node."""
    pick = chance.random()
    if depth == 0 or pick < 0.25:
        kind = chance.choice("AB")
        text, told = chance.choice([
            (f"is {kind}", lambda node: kind in node.kinds),
            ("root", lambda node: node.parent is None),
            (f"earlier {kind}", lambda node: any(
                kind in one.kinds for one in node.siblings()[:node.siblings().index(node)])),
            (f"later {kind}", lambda node: any(
                kind in one.kinds for one in node.siblings()[node.siblings().index(node) + 1:])),
        ])
        return text, text, 0, told
    if pick < 0.6:
        text, form, joint, told = random_question(chance, depth - 1)
        text = f"( {text} )" if joint or chance.random() < 0.3 else text
        form = f"( {form} )" if joint else form
        word, above = chance.choice([
            ("not", lambda node: not told(node)),
            ("parent", lambda node: node.parent is not None and told(node.parent)),
            ("above", lambda node: any(told(one) for one in node.over())),
        ])
        return f"{word} {text}", f"{word} {form}", 0, above
    joint = chance.choice([1, 2])
    parts = [random_question(chance, depth - 1) for _ in range(2)]
    word = ("and", "or")[joint - 1]
    texts = [f"( {part[0]} )" if part[2] > joint or chance.random() < 0.3 else part[0] for part in parts]
    forms = [f"( {part[1]} )" if part[2] > joint else part[1] for part in parts]
    one, two = parts[0][3], parts[1][3]
    told = (lambda node: one(node) and two(node)) if joint == 1 else (lambda node: one(node) or two(node))
    return f" {word} ".join(texts), f" {word} ".join(forms), joint, told


def random_tree(chance, marks, depth):
    mark = marks.pop()
    children = []
    while depth > 0 and marks and chance.random() < 0.75:
        children.append(random_tree(chance, marks, depth - 1))
    return Tree(chance.choice("abcd"), mark, children)


class ByChance(Base):
    def test_forms_and_picks(self):
        chance = random.Random(3)
        kinds = Kinds.read("kind A of a b where not some B\nkind B of b c d")
        many = 0
        while many < 400:
            text, form, _, told = random_question(chance, 3)
            try:
                question = Question.read(text)
            except TooMany:
                continue
            many += 1
            self.assertEqual(str(question), form)
            for _ in range(4):
                marks = list(range(25))
                chance.shuffle(marks)
                tree = random_tree(chance, marks, 5)
                expected = sorted(node.mark for node in Node(tree, kinds).all() if told(node))
                with self.subTest(f"{text} of {tree}"):
                    self.assertEqual(question.picks(kinds, tree), expected)


if __name__ == "__main__":
    unittest.main()
