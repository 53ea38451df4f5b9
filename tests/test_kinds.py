"""[9] to [13] Kinds: their texts, what is wrong with texts, and which kinds nodes have. [1], [2] as far as kinds go."""

import itertools
import random
import unittest

from keptnomore.errors import KeptError, NoKinds, TooMany
from keptnomore.kinds import Kinds
from keptnomore.trees import Tree

TWO = "kind A of a\nkind B of b\n"


def kinds_where(condition):
    """Kinds of which X has the condition at nodes called r; leaves: c has both A and B, d has none."""
    return Kinds.read(f"kind A of a c\nkind B of b c\nkind X of r where {condition}")


def form_of(condition):
    text = str(kinds_where(condition))
    return text[text.index(" where ") + len(" where "):]


def holds(condition, row):
    """Whether a condition holds of children that are leaves with these names."""
    tree = Tree("r", 0, [Tree(name, k + 1) for k, name in enumerate(row)])
    return kinds_where(condition).of(tree) == ("X",)


def rows_of_leaves(most):
    for many in range(most + 1):
        yield from itertools.product("abcd", repeat=many)


class Base(unittest.TestCase):
    def assert_no_kinds(self, text, row):
        with self.assertRaises(NoKinds) as caught:
            Kinds.read(text)
        self.assertEqual(caught.exception.row, row)

    def assert_too_many(self, text, word):
        with self.assertRaises(TooMany) as caught:
            Kinds.read(text)
        self.assertEqual(caught.exception.word, word)


class Rows(Base):
    def test_the_empty_text(self):
        kinds = Kinds.read("")
        self.assertEqual((str(kinds), len(kinds), kinds.words, kinds.names), ("", 0, (), ()))
        self.assertEqual(kinds.of(Tree("a", 1)), ())
        self.assertEqual(kinds.table(Tree.read("a:1 b:2 / /")), {1: (), 2: ()})
        self.assertIs("" in kinds, False)

    def test_rows_without_a_condition(self):
        for row in ("kind A of a", "kind ABCD of abcdefgh", "kind Z of any", "kind A of other", "kind A of a b c d",
                    "kind A of other any z a", "kind A of kind of not and", "kind A of some every first last",
                    "kind A of is mod then wherever", "kind K of k"):
            with self.subTest(row):
                self.assertEqual(str(Kinds.read(row)), row)

    def test_rows_with_a_condition(self):
        for condition in ("some A", "every A", "first A", "last A", "A then A", "A next A", "count A mod 2 is 0",
                          "count A mod 2 is 1", "count A mod 3 is 0", "count A mod 3 is 1", "count A mod 3 is 2",
                          "below A", "not some A", "not not some A", "some A and last A", "some A or last A"):
            for places in ("a", "any", "other b"):
                with self.subTest(condition):
                    row = f"kind A of {places} where {condition}"
                    self.assertEqual(str(Kinds.read(text=row)), row)

    def test_rows_that_are_none(self):
        rows = [
            "", " ", "kind", "kind A", "kind A of", "kind A of ", " kind A of a", "kind  A of a", "kind A  of a",
            "kind A of  a", "kind A of a ", "kind A of a  b", "kinds A of a", "Kind A of a", "A of a", "of a",
            "kind a of a", "kind ABCDE of a", "kind A1 of a", "kind 1 of a", "kind Ab of a", "kind A a",
            "kind A B of a", "kind A is a", "kind A of A", "kind A of a1", "kind A of a,b", "kind A of abcdefghi",
            "kind A of a:1", "kind A of a a", "kind A of a b a", "kind A of any any", "kind A of other other",
            "kind A of any a any", "kind A of a b c d e", "kind A of a b c d any", "kind A of a where",
            "kind A of a where ", "kind A of where", "kind A of where some A", "kind A of a where where some A",
            "kind A of a some A", "kind A of a  where some A", "kind A of a where  some A", "any", "all A", "root A",
            "kind A of b c d e f where some A", "kind A of b b where some A", "kind A of a WHERE some A",
        ]
        for row in rows:
            with self.subTest(repr(row)):
                if row != "":
                    self.assert_no_kinds(row, 0)
                self.assert_no_kinds(f"{TWO}{row}", 2)
                self.assert_no_kinds(f"kind C of c\n{row}\nkind D of d", 1)

    def test_conditions_that_are_none(self):
        conditions = [
            "A", "a", "some", "some a", "some ABCDE", "some A1", "some A B", "some A some A", "some any", "some other",
            "every", "first", "last", "below", "below a", "SOME A", "sum A", "then", "A then", "then A", "A then then",
            "A then b", "A then A then A", "A before A", "A next", "next A", "a next A", "A next A next A", "A and A",
            "count", "count A", "count A mod", "count A mod 2", "count A mod 2 is", "count mod 2 is 0",
            "count A mod 2 is 2", "count A mod 3 is 3", "count A mod 4 is 0", "count A mod 1 is 0",
            "count A mod 0 is 0", "count A mod 02 is 0", "count A mod 2 is 00", "count A mod 2 is 01",
            "count A mod 3 is 02", "count A mod 2 is -1", "count A mod 2 is 10", "count A mod 2 of 0",
            "count A by 2 is 0", "count a mod 2 is 0", "count A mod 2 is 0 1", "count A mod A is 0",
            "count A mod 2 is 1000000000000", "count A mod 3 is A",
            "some A and", "and some A", "some A or", "or some A", "some A and and some A", "some A or and some A",
            "some A and or some A", "not", "not not", "not and some A", "some A not", "some A not some A",
            "some A and not", "( some A", "some A )", "( )", "()", "(some A)", "( some A ) )", "( ( some A )",
            ") some A", "( some A ) some A", "some A ( some A )", "( some A and ) some A", "not ( )", "some ( A )",
            "( some ) A",
            "is A", "root", "parent some A", "above some A", "parent ( some A )", "earlier A", "later A",
            "some A where some A", "some A of a", "some A, some A", "some A & some A", "some A AND some A",
            "some  A", "some A ", "some A  and some A", "( some A )  ", "some A and some",
        ]
        for condition in conditions:
            with self.subTest(repr(condition)):
                self.assert_no_kinds(f"kind A of a where {condition}", 0)
                self.assert_no_kinds(f"{TWO}kind C of c where {condition}", 2)

    def test_an_empty_row(self):
        self.assert_no_kinds("\n", 0)
        self.assert_no_kinds("\nkind A of a", 0)
        self.assert_no_kinds("kind A of a\n", 1)
        self.assert_no_kinds("kind A of a\n\nkind B of b", 1)
        self.assert_no_kinds("kind A of a where some A\n", 1)
        self.assert_no_kinds("kind A of a\nwhere some A", 1)

    def test_a_kind_that_stands_in_an_earlier_row(self):
        self.assert_no_kinds("kind A of a\nkind A of b", 1)
        self.assert_no_kinds("kind A of a\nkind B of b\nkind A of c\nkind B of d", 2)
        self.assert_no_kinds("kind A of a\nkind B of b\nkind B of b", 2)
        self.assertEqual(len(Kinds.read("kind A of a\nkind AA of a\nkind B of a")), 3)

    def test_a_kind_that_no_row_defines(self):
        self.assert_no_kinds("kind A of a where some B", 0)
        self.assert_no_kinds("kind A of a\nkind B of b where some A and A then C", 1)
        self.assert_no_kinds("kind A of a\nkind B of b where some C\nkind D of d where C next D", 1)
        for condition in ("every C", "first C", "last C", "C then A", "A then C", "C next A", "A next C",
                          "count C mod 2 is 0", "below C", "not some C", "( some A or some C )", "some AA"):
            with self.subTest(condition):
                self.assert_no_kinds(f"{TWO}kind D of d where {condition}", 2)

    def test_a_kind_may_be_defined_later_or_in_the_row_itself(self):
        text = "kind A of a where some B or some A\nkind B of b"
        self.assertEqual(str(Kinds.read(text)), text)

    def test_names_are_no_kinds(self):
        # Small words are names only among the NAMES.
        self.assertEqual(Kinds.read("kind OF of of where some OF").words, ("OF",))


class Limits(Base):
    def kinds_rows(self, many):
        return "\n".join(f"kind {letter} of a" for letter in "ABCDEFGH"[:many])

    def test_four_kinds(self):
        self.assertEqual(len(Kinds.read(self.kinds_rows(4))), 4)
        self.assert_too_many(self.kinds_rows(5), "kinds")
        self.assert_too_many(self.kinds_rows(8), "kinds")

    def test_eight_atoms(self):
        for atom in ("some A", "every A", "first A", "last A", "A then A", "A next A", "count A mod 3 is 2", "below A"):
            for joint in (" and ", " or "):
                with self.subTest(atom):
                    eight = joint.join([atom] * 8)
                    self.assertEqual(str(Kinds.read(f"kind A of a where {eight}")), f"kind A of a where {eight}")
                    self.assert_too_many(f"kind A of a where {eight}{joint}{atom}", "atoms")
        mixed = "some A and ( every A or not first A ) and ( last A or A then A or A next A ) and below A"
        Kinds.read(f"kind A of a where {mixed} or count A mod 2 is 1")
        self.assert_too_many(f"kind A of a where {mixed} or count A mod 2 is 1 or some A", "atoms")

    def test_eight_atoms_in_each_condition(self):
        eight = " and ".join(["some A"] * 8)
        rows = [f"kind {word} of a where {eight}" for word in "ABCD"]
        self.assertEqual(len(Kinds.read("\n".join(rows))), 4)
        rows[3] += " or some A"
        self.assert_too_many("\n".join(rows), "atoms")

    def test_six_within_one_another(self):
        for condition in ("not " * 6 + "some A", "( " * 6 + "some A" + " )" * 6, "not ( " * 3 + "some A" + " )" * 3,
                          "( not " * 3 + "some A" + " )" * 3,
                          "( not ( not ( some A and not some A ) ) or not some A ) and not some A"):
            with self.subTest(condition):
                Kinds.read(f"kind A of a where {condition}")
                self.assert_too_many(f"kind A of a where ( {condition} )", "deep")
        for condition in ("not " * 7 + "some A", "( " * 7 + "some A" + " )" * 7, "not ( " * 3 + "not some A" + " )" * 3,
                          "some A and " + "not ( " * 3 + "some A or not some A" + " )" * 3,
                          "( " * 6 + "some A and not some A" + " )" * 6,
                          "( ( some A ) and not not not not not not some A )",
                          "( not ( some A ) and not not not not not not some A )"):
            with self.subTest(condition):
                self.assert_too_many(f"kind A of a where {condition}", "deep")

    def test_beside_one_another_is_not_within(self):
        side = "( not ( some A ) )"
        condition = " and ".join([side] * 8)
        self.assertEqual(str(Kinds.read(f"kind A of a where {condition}")),
                         "kind A of a where " + " and ".join(["not some A"] * 8))

    def test_the_depth_is_that_of_the_text_as_it_was_read(self):
        self.assert_too_many("kind A of a where " + "( " * 7 + "some A" + " )" * 7, "deep")
        self.assert_too_many("kind A of a\nkind B of a where ( ( ( ( ( ( not some A ) ) ) ) ) )", "deep")

    def test_far_beyond_the_limits(self):
        self.assert_too_many("kind A of a where " + "not " * 100 + "some A", "deep")
        self.assert_too_many("kind A of a where " + "( " * 100 + "some A" + " )" * 100, "deep")
        self.assert_too_many("kind A of a where " + "some A and not ( " * 100 + "some A" + " )" * 100, "atoms")
        self.assert_no_kinds("kind A of a where " + "( " * 100 + "some A" + " )" * 99, 0)

    def test_the_order_of_the_exceptions(self):
        nine = " or ".join(["some A"] * 9)
        deep = "not " * 7 + "some A"
        self.assert_too_many(f"kind A of a where {deep}\nkind B of b where {nine}", "atoms")
        self.assert_too_many(f"kind A of a where {deep} and {nine}", "atoms")
        self.assert_too_many(f"kind A of a where {deep} and {nine}\n" + self.kinds_rows(6)[12:], "kinds")
        self.assert_no_kinds(self.kinds_rows(6) + "\nkind Z of z where some Y", 6)
        self.assert_no_kinds(f"kind A of a where {nine}\nkind B of a where some C", 1)
        self.assert_no_kinds(f"kind A of a where {deep}\nkind B of a where some C", 1)
        self.assert_no_kinds("kind A of a where some C\nkind B of b\nkind B of b", 2)
        self.assert_no_kinds("kind A of a where some C\nkind A of a\nkind B of", 2)
        self.assert_no_kinds("kind A of a\nkind A of a\n", 2)
        self.assert_no_kinds(self.kinds_rows(6) + "\nkind A of a", 6)

    def test_they_are_kept_errors(self):
        with self.assertRaises(KeptError):
            Kinds.read("kind")
        with self.assertRaises(ValueError):
            Kinds.read(self.kinds_rows(5))


class Forms(Base):
    def test_parentheses_only_where_the_meaning_needs_them(self):
        forms = [
            ("( some A )", "some A"),
            ("( ( ( some A ) ) )", "some A"),
            ("not ( some A )", "not some A"),
            ("( not some A )", "not some A"),
            ("not ( not ( some A ) )", "not not some A"),
            ("not not not some A", "not not not some A"),
            ("( some A and some B ) and first A", "some A and some B and first A"),
            ("some A and ( some B and first A )", "some A and some B and first A"),
            ("some A and ( some B and ( first A and ( last A ) ) )", "some A and some B and first A and last A"),
            ("( some A or some B ) or first A", "some A or some B or first A"),
            ("some A or ( some B or first A )", "some A or some B or first A"),
            ("( some A or some B ) or ( first A or first B )", "some A or some B or first A or first B"),
            ("( some A and some B ) or first A", "some A and some B or first A"),
            ("some A or ( some B and first A )", "some A or some B and first A"),
            ("some A and some B or first A and first B", "some A and some B or first A and first B"),
            ("( some A or some B ) and first A", "( some A or some B ) and first A"),
            ("some A and ( some B or first A )", "some A and ( some B or first A )"),
            ("( ( some A or ( some B or last A ) ) ) and first A", "( some A or some B or last A ) and first A"),
            ("not ( some A and some B )", "not ( some A and some B )"),
            ("not ( some A or some B )", "not ( some A or some B )"),
            ("not ( ( some A ) and ( some B and first A ) )", "not ( some A and some B and first A )"),
            ("not some A and some B", "not some A and some B"),
            ("( not some A ) and some B", "not some A and some B"),
            ("not ( some A ) or not ( some B )", "not some A or not some B"),
            ("some A and ( not ( some B or last B ) )", "some A and not ( some B or last B )"),
            ("( A then B ) and ( count A mod 3 is 2 )", "A then B and count A mod 3 is 2"),
            ("some A or some A and some A or some A", "some A or some A and some A or some A"),
            ("some A and ( some B or ( first A and ( last A or last B ) ) )",
             "some A and ( some B or first A and ( last A or last B ) )"),
            ("( some A and ( some B or last B ) ) and ( first B )", "some A and ( some B or last B ) and first B"),
        ]
        for condition, form in forms:
            with self.subTest(condition):
                self.assertEqual(form_of(condition), form)
                self.assertEqual(form_of(form), form)
                self.assertEqual(kinds_where(condition), kinds_where(form))

    def test_all_else_stays(self):
        text = ("kind BB of z a other any where last BB or some A and some A\n"
                "kind A of b a\n"
                "kind C of any where not not ( every A or first BB )")
        self.assertEqual(str(Kinds.read(text)), text)

    def test_equality_is_that_of_the_texts(self):
        one = Kinds.read("kind A of a b\nkind B of c where some A")
        self.assertIs(one == Kinds.read("kind A of a b\nkind B of c where ( some A )"), True)
        self.assertIs(one != Kinds.read("kind A of a b\nkind B of c where ( some A )"), False)
        for text in ("kind A of b a\nkind B of c where some A", "kind B of c where some A\nkind A of a b",
                     "kind A of a b\nkind B of c where not not some A", "kind A of a b\nkind B of c", "",
                     "kind A of a b\nkind B of c where some A and some A", "kind A of a b\nkind C of c where some A"):
            with self.subTest(text):
                self.assertIs(one == Kinds.read(text), False)
                self.assertIs(one != Kinds.read(text), True)
        self.assertIs(kinds_where("some A and some B") == kinds_where("some B and some A"), False)

    def test_equal_to_no_object_of_another_class(self):
        kinds = Kinds.read("kind A of a")
        for other in ("kind A of a", ("A",), 1, None, True, Tree("a", 1), object()):
            with self.subTest(repr(other)):
                self.assertIs(kinds == other, False)
                self.assertIs(kinds != other, True)


class Parts(Base):
    def test_words_in_the_order_of_the_rows(self):
        kinds = Kinds.read("kind ZZ of a\nkind A of b where some M\nkind M of c")
        self.assertEqual(kinds.words, ("ZZ", "A", "M"))
        self.assertIsInstance(kinds.words, tuple)
        self.assertEqual(len(kinds), 3)

    def test_names_ascending_and_once(self):
        kinds = Kinds.read("kind A of z other b\nkind B of b any aa\nkind C of a z where some A")
        self.assertEqual(kinds.names, ("a", "aa", "b", "z"))
        self.assertIsInstance(kinds.names, tuple)
        self.assertEqual(Kinds.read("kind A of any\nkind B of other").names, ())

    def test_which_kind_names_are_among_them(self):
        kinds = Kinds.read("kind AB of a where some C\nkind C of b")
        for word, is_there in (("AB", True), ("C", True), ("A", False), ("B", False), ("a", False), ("", False),
                               ("ABC", False), ("any", False), ("AB C", False)):
            with self.subTest(word):
                self.assertIs(word in kinds, is_there)
                self.assertIs(word not in kinds, not is_there)


class Atoms(Base):
    def check(self, condition, expected):
        for row in rows_of_leaves(4):
            has_a = [name in "ac" for name in row]
            has_b = [name in "bc" for name in row]
            with self.subTest(f"{condition} of {row}"):
                self.assertIs(holds(condition, row), expected(has_a, has_b))

    def test_some(self):
        self.check("some A", lambda a, b: True in a)
        self.check("some B", lambda a, b: True in b)

    def test_every(self):
        self.check("every A", lambda a, b: False not in a)
        self.assertTrue(holds("every A", ""))

    def test_first_and_last(self):
        self.check("first A", lambda a, b: len(a) > 0 and a[0])
        self.check("last A", lambda a, b: len(a) > 0 and a[-1])
        self.assertFalse(holds("first A", ""))
        self.assertFalse(holds("last A", ""))
        self.assertTrue(holds("not first A and not last A", ""))

    def test_then(self):
        pairs = [(one, two) for two in range(5) for one in range(two)]
        self.check("A then B", lambda a, b: any(a[i] and b[j] for i, j in pairs if j < len(a)))
        self.check("B then A", lambda a, b: any(b[i] and a[j] for i, j in pairs if j < len(a)))
        self.check("A then A", lambda a, b: a.count(True) >= 2)
        self.assertFalse(holds("A then B", "c"))
        self.assertTrue(holds("A then B", "addb"))

    def test_next(self):
        self.check("A next B", lambda a, b: any(a[i] and b[i + 1] for i in range(len(a) - 1)))
        self.check("A next A", lambda a, b: any(a[i] and a[i + 1] for i in range(len(a) - 1)))
        self.assertFalse(holds("A next B", "adb"))
        self.assertFalse(holds("A next B", "ba"))

    def test_count(self):
        for by in (2, 3):
            for rest in range(by):
                self.check(f"count A mod {by} is {rest}", lambda a, b: a.count(True) % by == rest)
        for many in range(10):
            self.assertIs(holds("count B mod 3 is 2", "bd" * many), many % 3 == 2)
            self.assertIs(holds("count B mod 2 is 1", "ba" * many), many % 2 == 1)

    def test_below(self):
        self.check("below A", lambda a, b: True in a)
        kinds = Kinds.read("kind A of a\nkind X of any where below A")
        tree = Tree.read("r:1 b:2 c:3 d:4 a:5 / / / / e:6 f:7 / / a:8 g:9 / / /")
        self.assertEqual(kinds.table(tree), {
            1: ("X",), 2: ("X",), 3: ("X",), 4: ("X",), 5: ("A",), 6: (), 7: (), 8: ("A",), 9: ()})

    def test_only_below_looks_deeper_than_children(self):
        for condition in ("some A", "first A", "last A", "A then A", "A next A", "count A mod 2 is 1"):
            kinds = Kinds.read(f"kind A of a\nkind X of r where {condition}")
            with self.subTest(condition):
                self.assertEqual(kinds.of(Tree.read("r:1 d:2 a:3 / a:4 / a:5 / / /")), ())

    def test_and_or_not(self):
        self.check("some A and some B", lambda a, b: True in a and True in b)
        self.check("some A or some B", lambda a, b: True in a or True in b)
        self.check("not some A", lambda a, b: True not in a)
        self.check("not some A and some B", lambda a, b: True not in a and True in b)
        self.check("not ( some A and some B )", lambda a, b: not (True in a and True in b))
        self.check("not some A or some B", lambda a, b: True not in a or True in b)
        self.check("first A or some B and last A", lambda a, b: a[:1] == [True] or (True in b and a[-1:] == [True]))
        self.check("some B and last A or first A", lambda a, b: a[:1] == [True] or (True in b and a[-1:] == [True]))
        self.check("( first A or some B ) and last A", lambda a, b: (a[:1] == [True] or True in b) and a[-1:] == [True])
        self.check("not not some A", lambda a, b: True in a)
        self.check("every A and some A and some B and first B",
                   lambda a, b: False not in a and True in a and b[0])


class Names(Base):
    def kinds_of_names(self, text, names):
        return [Kinds.read(text).of(Tree(name, 1)) for name in names]

    def test_any_other_and_names(self):
        text = "kind A of a b\nkind B of any\nkind C of other\nkind D of other b"
        self.assertEqual(self.kinds_of_names(text, ["a", "b", "c", "zz"]), [
            ("A", "B"), ("A", "B", "D"), ("B", "C", "D"), ("B", "C", "D")])

    def test_other_looks_at_all_rows(self):
        text = "kind A of other\nkind B of other c where some A\nkind C of d where some A"
        self.assertEqual(self.kinds_of_names(text, ["a", "c", "d"]), [("A",), (), ()])
        self.assertEqual(Kinds.read(text).of(Tree.read("c:1 a:2 / /")), ("B",))

    def test_other_where_any_stands(self):
        self.assertEqual(self.kinds_of_names("kind A of any\nkind B of other", ["a"]), [("A", "B")])

    def test_a_name_is_not_a_part_of_a_name(self):
        self.assertEqual(self.kinds_of_names("kind A of ab", ["a", "b", "ab", "abc"]), [(), (), ("A",), ()])

    def test_name_and_condition_are_both_needed(self):
        kinds = Kinds.read("kind A of a\nkind B of b where some A")
        self.assertEqual(kinds.of(Tree.read("b:1 a:2 / /")), ("B",))
        self.assertEqual(kinds.of(Tree.read("c:1 a:2 / /")), ())
        self.assertEqual(kinds.of(Tree.read("b:1 c:2 / /")), ())

    def test_a_kind_in_its_own_row(self):
        kinds = Kinds.read("kind ODD of any where not some ODD")
        tree = Tree.read("a:1 a:2 a:3 a:4 / / / a:5 / /")
        self.assertEqual(kinds.table(tree), {1: (), 2: ("ODD",), 3: (), 4: ("ODD",), 5: ("ODD",)})

    def test_kinds_that_use_each_other(self):
        kinds = Kinds.read("kind A of any where every B\nkind B of any where some A and not below C\nkind C of c")
        self.assertEqual(kinds.table(Tree.read("a:1 b:2 a:3 / / c:4 / /")), {
            1: (), 2: ("B",), 3: ("A",), 4: ("A", "C")})
        self.assertEqual(kinds.table(Tree.read("a:1 b:2 a:3 / / b:4 c:5 / / /")), {
            1: (), 2: ("B",), 3: ("A",), 4: (), 5: ("A", "C")})

    def test_kinds_in_the_order_of_the_rows(self):
        kinds = Kinds.read("kind Z of a\nkind B of a\nkind M of a\nkind A of a")
        self.assertEqual(kinds.of(Tree("a", 1)), ("Z", "B", "M", "A"))
        self.assertEqual(kinds.of(tree=Tree("b", 1)), ())


class Tables(Base):
    def test_the_example(self):
        kinds = Kinds.read("kind A of a\nkind B of any where some A and not last A")
        tree = Tree.read("r:1 a:2 / b:3 a:4 / / /")
        self.assertEqual(kinds.table(tree), {1: ("B",), 2: ("A",), 3: (), 4: ("A",)})
        self.assertEqual(repr(kinds.table(tree)), "{1: ('B',), 2: ('A',), 3: (), 4: ('A',)}")

    def test_marks_in_the_order_in_which_the_nodes_open(self):
        kinds = Kinds.read("kind A of a")
        table = kinds.table(tree=Tree.read("a:9 b:5 a:7 / / a:0 / b:3 / /"))
        self.assertEqual(list(table.items()), [(9, ("A",)), (5, ()), (7, ("A",)), (0, ("A",)), (3, ())])

    def test_a_new_dict_at_each_call(self):
        kinds = Kinds.read("kind A of a")
        tree = Tree.read("a:1 b:2 / /")
        first = kinds.table(tree)
        first.clear()
        first[7] = ("B",)
        self.assertEqual(kinds.table(tree), {1: ("A",), 2: ()})
        self.assertIs(type(kinds.table(tree)), dict)

    def test_nothing_that_is_passed_is_changed(self):
        kinds = Kinds.read("kind A of a\nkind B of b where some A")
        tree = Tree.read("b:1 a:2 / a:3 / /")
        for _ in range(2):
            self.assertEqual(kinds.of(tree), ("B",))
            self.assertEqual(kinds.table(tree), {1: ("B",), 2: ("A",), 3: ("A",)})
        self.assertEqual(str(tree), "b:1 a:2 / a:3 / /")
        self.assertEqual(str(kinds), "kind A of a\nkind B of b where some A")

    def test_a_part_of_a_tree_is_looked_at_alone(self):
        kinds = Kinds.read("kind A of a\nkind B of any where below A")
        tree = Tree.read("r:1 b:2 c:3 / / a:4 / /")
        self.assertEqual([kinds.of(node) for node in tree], [("B",), (), (), ("A",)])


def random_condition(chance, depth):
    """A text, its form, its loosest joint (0 an atom or not, 1 and, 2 or), and what tells of the children's kinds."""
    pick = chance.random()
    if depth == 0 or pick < 0.3:
        return random_atom(chance)
    if pick < 0.5:
        text, form, joint, told = random_condition(chance, depth - 1)
        text = f"( {text} )" if joint or chance.random() < 0.3 else text
        form = f"( {form} )" if joint else form
        return f"not {text}", f"not {form}", 0, lambda rows, deep: not told(rows, deep)
    kind = chance.choice([1, 2])
    parts = [random_condition(chance, depth - 1) for _ in range(2)]
    word = ("and", "or")[kind - 1]
    texts = [f"( {part[0]} )" if part[2] > kind or chance.random() < 0.4 else part[0] for part in parts]
    forms = [f"( {part[1]} )" if part[2] > kind else part[1] for part in parts]
    one, two = parts[0][3], parts[1][3]
    told = ((lambda rows, deep: one(rows, deep) and two(rows, deep)) if kind == 1
            else (lambda rows, deep: one(rows, deep) or two(rows, deep)))
    return f" {word} ".join(texts), f" {word} ".join(forms), kind, told


def random_atom(chance):
    a, b = chance.choice("ABCD"), chance.choice("ABCD")
    by = chance.choice([2, 3])
    rest = chance.randrange(by)
    text, told = chance.choice([
        (f"some {a}", lambda rows, deep: any(a in row for row in rows)),
        (f"every {a}", lambda rows, deep: all(a in row for row in rows)),
        (f"first {a}", lambda rows, deep: rows != [] and a in rows[0]),
        (f"last {a}", lambda rows, deep: rows != [] and a in rows[-1]),
        (f"{a} then {b}", lambda rows, deep: any(
            a in rows[i] and b in rows[j] for j in range(len(rows)) for i in range(j))),
        (f"{a} next {b}", lambda rows, deep: any(a in rows[i] and b in rows[i + 1] for i in range(len(rows) - 1))),
        (f"count {a} mod {by} is {rest}", lambda rows, deep: sum(a in row for row in rows) % by == rest),
        (f"below {a}", lambda rows, deep: a in deep),
    ])
    return text, text, 0, told


def told_of(tree, plan, names):
    """The kinds of the tree, and all kinds in it, told by the plan alone."""
    rows, deep = [], set()
    for child in tree.children:
        row, inner = told_of(child, plan, names)
        rows.append(row)
        deep |= inner
    kinds = tuple(
        kind for kind, places, told in plan
        if (tree.name in places or "any" in places or "other" in places and tree.name not in names)
        and (told is None or told(rows, deep)))
    return kinds, deep | set(kinds)


def random_tree(chance, marks, depth):
    mark = marks.pop()
    children = []
    while depth > 0 and marks and chance.random() < 0.7:
        children.append(random_tree(chance, marks, depth - 1))
    return Tree(chance.choice(["a", "b", "c", "zz"]), mark, children)


class ByChance(Base):
    def test_forms_and_kinds(self):
        chance = random.Random(7)
        for _ in range(300):
            rows, forms, plan = [], [], []
            for kind in "ABCD":
                places = chance.sample(["a", "b", "c", "any", "other"], chance.randint(1, 3))
                head = f"kind {kind} of " + " ".join(places)
                text, form, _, told = random_condition(chance, 2)
                if chance.random() < 0.3:
                    rows.append(head)
                    forms.append(head)
                    plan.append((kind, places, None))
                else:
                    rows.append(f"{head} where {text}")
                    forms.append(f"{head} where {form}")
                    plan.append((kind, places, told))
            kinds = Kinds.read("\n".join(rows))
            self.assertEqual(str(kinds), "\n".join(forms))
            self.assertEqual(Kinds.read(str(kinds)), kinds)
            names = {name for _, places, _ in plan for name in places} - {"any", "other"}
            self.assertEqual(kinds.names, tuple(sorted(names)))
            for _ in range(5):
                tree = random_tree(chance, list(range(25)), 4)
                expected = {node.mark: told_of(node, plan, names)[0] for node in tree}
                self.assertEqual(list(kinds.table(tree).items()), list(expected.items()))
                self.assertEqual(kinds.of(tree), expected[tree.mark])


if __name__ == "__main__":
    unittest.main()
