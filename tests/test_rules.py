"""[14] and [15] Rules: their texts, what is wrong with texts, and which documents they allow."""

import unittest

from keptnomore.errors import KeptError, NoRules, TooMany, UnknownKind
from keptnomore.kinds import Kinds
from keptnomore.rules import Rules
from keptnomore.trees import Tree

KINDS = Kinds.read("kind A of a c\nkind B of b c\nkind C of any where some A")


def lets(rules, tree, kinds=KINDS):
    return Rules.read(rules).lets(kinds, Tree.read(tree))


class Reading(unittest.TestCase):
    def test_texts(self):
        for text in ("", "all A", "root A", "all A\nroot B", "root ABCD\nroot ABCD\nall Z", "all NOT\nroot ALL"):
            with self.subTest(text):
                self.assertEqual(str(Rules.read(text)), text)
                self.assertEqual(Rules.read(text=text), Rules.read(text))

    def test_the_first_row_that_is_none(self):
        rows = [
            ("\n", 0), (" ", 0), ("all", 0), ("root", 0), ("A", 0), ("all a", 0), ("all ABCDE", 0), ("all A1", 0),
            ("All A", 0), ("every A", 0), ("all  A", 0), (" all A", 0), ("all A ", 0), ("all A B", 0), ("root any", 0),
            ("all A all B", 0), ("roots A", 0), ("all A\n", 1), ("all A\nroot", 1), ("all A\n\nall B", 1),
            ("all A\nroot A\nroot a\nall b", 2), ("all A\nall A\nall A\nall A\nall", 4),
        ]
        for text, row in rows:
            with self.subTest(text):
                with self.assertRaises(NoRules) as caught:
                    Rules.read(text)
                self.assertEqual(caught.exception.row, row)

    def test_too_many_rows(self):
        for many in (4, 5, 9):
            with self.assertRaises(TooMany) as caught:
                Rules.read("\n".join(["all A"] * many))
            self.assertEqual(caught.exception.word, "rows")
        self.assertEqual(str(Rules.read("all A\nall A\nall A")), "all A\nall A\nall A")

    def test_equality_compares_texts(self):
        self.assertTrue(Rules.read("all A") == Rules.read("all A"))
        self.assertFalse(Rules.read("all A\nall B") == Rules.read("all B\nall A"))
        self.assertFalse(Rules.read("all A") == Rules.read("all A\nall A"))
        self.assertTrue(Rules.read("") != Rules.read("root A"))
        for other in ("all A", None, 1, ("all", "A"), Kinds.read("")):
            self.assertFalse(Rules.read("all A") == other)


class Letting(unittest.TestCase):
    def test_by_the_empty_text_every_document_is_allowed(self):
        self.assertIs(lets("", "x:1 y:2 / /"), True)

    def test_all(self):
        self.assertIs(lets("all A", "a:1 /"), True)
        self.assertIs(lets("all A", "a:1 c:2 / a:3 c:4 / / /"), True)
        self.assertIs(lets("all A", "a:1 c:2 / a:3 b:4 / / /"), False)
        self.assertIs(lets("all A", "b:1 a:2 / /"), False)

    def test_root(self):
        self.assertIs(lets("root A", "a:1 b:2 / /"), True)
        self.assertIs(lets("root A", "b:1 a:2 / /"), False)
        self.assertIs(lets("root C", "x:1 a:2 / /"), True)
        self.assertIs(lets("root C", "x:1 x:2 a:3 / / /"), False)

    def test_all_rows_hold(self):
        self.assertIs(lets("root C\nall A", "a:1 a:2 / /"), True)
        self.assertIs(lets("root C\nall A", "a:1 /"), False)
        self.assertIs(lets("root C\nall A", "b:1 a:2 / /"), False)
        self.assertIs(lets("all A\nall B", "c:1 c:2 / /"), True)
        self.assertIs(lets("all A\nall B", "c:1 a:2 / /"), False)
        self.assertIs(lets("root A\nroot B\nroot C", "c:1 c:2 / /"), True)

    def test_unknown_kinds(self):
        for text, kind in (("all D", "D"), ("all A\nroot E\nall D", "E"), ("root ABC", "ABC")):
            with self.assertRaises(UnknownKind) as caught:
                lets(text, "b:1 /")
            self.assertEqual(caught.exception.kind, kind)
        with self.assertRaises(KeptError):
            lets("root A", "a:1 /", Kinds.read(""))

    def test_arguments_by_name(self):
        self.assertIs(Rules.read("all A").lets(kinds=KINDS, tree=Tree.read("a:1 /")), True)


if __name__ == "__main__":
    unittest.main()
