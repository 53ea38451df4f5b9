"""[6], [7], [8] Trees, their events, and the rows that these are written as. [1], [2] as far as trees go."""

import inspect
import random
import unittest

from keptnomore.errors import NoTree
from keptnomore.trees import Tree, events_of, words_of

CLOSE = ("close",)
BIG = 999999999999


def small_tree():
    return Tree("r", 1, [Tree("b", 2, [Tree("x", 3)]), Tree("a", 4)])


SMALL_EVENTS = [
    ("open", "r", 1), ("open", "b", 2), ("open", "x", 3), CLOSE, CLOSE, ("open", "a", 4), CLOSE, CLOSE]
SMALL_TEXT = "r:1 b:2 x:3 / / a:4 / /"


def some_tree(chance, marks, depth):
    mark = marks.pop()
    children = []
    while depth > 0 and chance.random() < 0.6 and marks:
        children.append(some_tree(chance, marks, depth - 1))
    return Tree(chance.choice(["a", "b", "some", "abcdefgh"]), mark, children)


class Attributes(unittest.TestCase):
    def test_by_position_and_by_name(self):
        child = Tree("b", 2)
        for tree in (Tree("a", 1, [child]), Tree(name="a", mark=1, children=[child]),
                     Tree("a", 1, children=(child,)), Tree(children=[child], mark=1, name="a")):
            self.assertEqual((tree.name, tree.mark), ("a", 1))
            self.assertIsInstance(tree.children, tuple)
            self.assertEqual(len(tree.children), 1)
            self.assertIs(tree.children[0], child)

    def test_without_children(self):
        for tree in (Tree("a", 1), Tree("a", 1, ()), Tree("a", 1, [])):
            self.assertEqual(tree.children, ())
            self.assertIsInstance(tree.children, tuple)

    def test_a_list_of_children_that_is_changed_later(self):
        children = [Tree("b", 2)]
        tree = Tree("a", 1, children)
        children.append(Tree("c", 3))
        children[0] = Tree("d", 4)
        self.assertEqual(str(tree), "a:1 b:2 / /")
        self.assertEqual(len(tree), 2)
        self.assertEqual([node.mark for node in tree], [1, 2])
        self.assertEqual(tree, Tree("a", 1, [Tree("b", 2)]))

    def test_a_list_of_children_stays_unchanged(self):
        one, two = Tree("b", 2), Tree("c", 3)
        children = [one, two]
        tree = Tree("a", 1, children)
        str(tree), len(tree), list(tree), list(tree.events())
        self.assertEqual(len(children), 2)
        self.assertIs(children[0], one)
        self.assertIs(children[1], two)


class LengthAndNodes(unittest.TestCase):
    def test_length(self):
        self.assertEqual(len(Tree("a", 1)), 1)
        self.assertEqual(len(small_tree()), 4)
        self.assertEqual(len(Tree("a", 0, [small_tree(), small_tree()])), 9)

    def test_nodes_in_the_order_in_which_they_open(self):
        self.assertEqual([node.mark for node in small_tree()], [1, 2, 3, 4])
        wide = Tree("r", 9, [Tree("a", 5), Tree("a", 3, [Tree("a", 8), Tree("a", 1)]), Tree("a", 0)])
        self.assertEqual([node.mark for node in wide], [9, 5, 3, 8, 1, 0])

    def test_each_node_is_the_tree_that_it_is_the_root_of(self):
        self.assertEqual([str(node) for node in small_tree()], [SMALL_TEXT, "b:2 x:3 / /", "x:3 /", "a:4 /"])
        self.assertEqual([len(node) for node in small_tree()], [4, 2, 1, 1])
        for node in small_tree():
            self.assertIsInstance(node, Tree)

    def test_it_can_be_gone_over_again_and_within_itself(self):
        tree = small_tree()
        self.assertEqual([(one.mark, two.mark) for one in tree for two in tree],
                         [(k, n) for k in (1, 2, 3, 4) for n in (1, 2, 3, 4)])


class Equality(unittest.TestCase):
    def test_equal(self):
        self.assertIs(small_tree() == small_tree(), True)
        self.assertIs(small_tree() != small_tree(), False)
        self.assertIs(Tree("a", 1, []) == Tree("a", 1, ()), True)

    def test_unlike_names_marks_children_orders_and_shapes(self):
        texts = [
            SMALL_TEXT, "s:1 b:2 x:3 / / a:4 / /", "r:5 b:2 x:3 / / a:4 / /", "r:1 b:2 y:3 / / a:4 / /",
            "r:1 b:2 x:5 / / a:4 / /", "r:1 a:4 / b:2 x:3 / / /", "r:1 b:2 / x:3 / a:4 / /",
            "r:1 b:2 x:3 a:4 / / / /", "r:1 b:2 x:3 / a:4 / / /", "r:1 b:2 / x:3 a:4 / / /",
            "r:1 b:2 x:3 / / /", "r:1 a:4 / /", "r:1 /", "r:1 b:2 x:3 / / a:4 / c:6 / /",
        ]
        for one in texts:
            for other in texts:
                with self.subTest(f"{one} == {other}"):
                    self.assertIs(Tree.read(one) == Tree.read(other), one == other)
                    self.assertIs(Tree.read(one) != Tree.read(other), one != other)

    def test_to_no_object_of_another_class(self):
        for other in (SMALL_TEXT, SMALL_EVENTS, ("r", 1, ()), None, 1, 4, True, [], object()):
            with self.subTest(repr(other)):
                self.assertIs(small_tree() == other, False)
                self.assertIs(small_tree() != other, True)


class Events(unittest.TestCase):
    def test_the_events_of_a_tree(self):
        self.assertEqual(list(Tree("a", 7).events()), [("open", "a", 7), CLOSE])
        self.assertEqual(list(small_tree().events()), SMALL_EVENTS)

    def test_they_come_from_a_generator(self):
        tree = small_tree()
        events = tree.events()
        self.assertTrue(inspect.isgenerator(events))
        self.assertEqual(next(events), ("open", "r", 1))
        self.assertEqual(list(tree.events()), SMALL_EVENTS)
        self.assertEqual(list(events), SMALL_EVENTS[1:])

    def test_events_are_tuples(self):
        for event in small_tree().events():
            self.assertIs(type(event), tuple)

    def test_there_and_back(self):
        chance = random.Random(1)
        for _ in range(200):
            tree = some_tree(chance, list(range(30)), 5)
            events = list(tree.events())
            self.assertEqual(Tree.from_events(events), tree)
            self.assertEqual(Tree.from_events(tuple(events)), tree)
            self.assertEqual(Tree.read(str(tree)), tree)
            self.assertEqual(events_of(str(tree)), events)
            self.assertEqual(words_of(events), str(tree))
            self.assertEqual(len(events), 2 * len(tree))


class Words(unittest.TestCase):
    def test_str_is_the_row_of_the_events(self):
        self.assertEqual(str(small_tree()), SMALL_TEXT)
        self.assertEqual(str(Tree("abcdefgh", 0)), "abcdefgh:0 /")

    def test_words_of(self):
        self.assertEqual(words_of([]), "")
        self.assertEqual(words_of(()), "")
        self.assertEqual(words_of(SMALL_EVENTS), SMALL_TEXT)
        self.assertEqual(words_of(tuple(SMALL_EVENTS)), SMALL_TEXT)
        self.assertEqual(words_of(events=[CLOSE, CLOSE, ("open", "a", 0)]), "/ / a:0")

    def test_words_of_leaves_the_list_as_it_is(self):
        events = list(SMALL_EVENTS)
        words_of(events)
        self.assertEqual(events, SMALL_EVENTS)

    def test_events_of(self):
        self.assertEqual(events_of(""), [])
        self.assertEqual(events_of(SMALL_TEXT), SMALL_EVENTS)
        self.assertEqual(events_of(text="/ / a:0"), [CLOSE, CLOSE, ("open", "a", 0)])
        self.assertEqual(events_of(f"kind:{BIG} of:10"), [("open", "kind", BIG), ("open", "of", 10)])
        self.assertIs(type(events_of("a:1")[0][2]), int)

    def test_events_of_makes_a_new_list_at_each_call(self):
        first = events_of(SMALL_TEXT)
        self.assertIsInstance(first, list)
        first.clear()
        self.assertEqual(events_of(SMALL_TEXT), SMALL_EVENTS)

    def test_words_that_are_no_events(self):
        faults = [
            "", "a", "a:", ":1", ":", "1:a", "a:1:", "a:1:2", "a::1", "A:1", "aB:1", "a1:1", "a_b:1", "a-b:1",
            "abcdefghi:1", "any:1", "other:1", "where:1", "a:00", "a:01", "a:007", "a:-1", "a:+1", "a:1.0", "a:x",
            "a:1000000000000", "a:0000000000001", "a:1x", "//", "a:1/", "/a:1", "\\", ".", "a:1\n", "\na:1", "/\n",
            "a\n:1", "a:1\n/", "\n", "{", "a:1,", "close", "open",
        ]
        for fault in faults:
            with self.subTest(repr(fault)):
                if fault != "":
                    with self.assertRaises(NoTree) as caught:
                        events_of(fault)
                    self.assertEqual(caught.exception.at, 0)
                    with self.assertRaises(NoTree) as caught:
                        Tree.read(fault)
                    self.assertEqual(caught.exception.at, 0)
                with self.assertRaises(NoTree) as caught:
                    events_of("a:1 / " + fault + " b:2 ?")
                self.assertEqual(caught.exception.at, 2)
                with self.assertRaises(NoTree) as caught:
                    Tree.read("a:1 b:2 / " + fault + " / ?")
                self.assertEqual(caught.exception.at, 3)

    def test_names_that_look_like_other_words(self):
        for name in ("an", "anyone", "others", "wherever", "some", "not", "and", "is", "root", "close", "open"):
            with self.subTest(name):
                self.assertEqual(Tree.read(f"{name}:1 /").name, name)

    def test_blanks_too_many(self):
        for text, at in ((" ", 0), ("  ", 0), (" a:1 /", 0), ("a:1  /", 1), ("a:1 / ", 2), ("a:1  / /", 1)):
            with self.subTest(repr(text)):
                with self.assertRaises(NoTree) as caught:
                    events_of(text)
                self.assertEqual(caught.exception.at, at)
                with self.assertRaises(NoTree) as caught:
                    Tree.read(text)
                self.assertEqual(caught.exception.at, at)


class Reading(unittest.TestCase):
    def test_read(self):
        self.assertEqual(Tree.read(SMALL_TEXT), small_tree())
        self.assertEqual(Tree.read(text="a:0 /"), Tree("a", 0))
        self.assertEqual(Tree.read(f"a:{BIG} /").mark, BIG)
        self.assertIs(type(Tree.read("a:1 /")), Tree)

    def test_the_first_word_behind_which_it_is_the_beginning_of_no_tree(self):
        rows = [
            ("", 0), ("/", 0), ("/ a:1 /", 0), ("a:1", 1), ("a:1 b:2", 2), ("a:1 b:2 /", 3), ("a:1 b:2 / c:3 /", 5),
            ("a:1 / /", 2), ("a:1 / b:2", 2), ("a:1 / b:2 /", 2), ("a:1 b:2 / / /", 4), ("a:1 b:2 / / c:3 / /", 4),
            ("a:1 / x", 2), ("a:1 x / /", 1), ("x a:1", 0), ("a:1 b:2 x", 2), ("a:1 / / x", 2), ("a:1 / x /", 2),
        ]
        for text, at in rows:
            with self.subTest(repr(text)):
                with self.assertRaises(NoTree) as caught:
                    Tree.read(text)
                self.assertEqual(caught.exception.at, at)

    def test_the_same_for_events(self):
        a, b = ("open", "a", 1), ("open", "b", 2)
        rows = [
            ([], 0), ([CLOSE], 0), ([CLOSE, a, CLOSE], 0), ([a], 1), ([a, b], 2), ([a, b, CLOSE], 3),
            ([a, CLOSE, CLOSE], 2), ([a, CLOSE, b], 2), ([a, CLOSE, b, CLOSE], 2), ([a, b, CLOSE, CLOSE, CLOSE], 4),
            ([a, CLOSE, None], 2), ([None, a, CLOSE], 0), ([a, None, CLOSE, CLOSE, CLOSE], 1),
        ]
        for events, at in rows:
            for passed in (events, tuple(events)):
                with self.subTest(repr(passed)):
                    with self.assertRaises(NoTree) as caught:
                        Tree.from_events(passed)
                    self.assertEqual(caught.exception.at, at)

    def test_values_that_are_no_events(self):
        faults = [
            None, 0, 1, True, "", "/", "a:1", "close", b"close", [], ["close"], ["open", "a", 1], (), {}, {"close": 1},
            ("close", 1), ("close", None), ("closed",), ("Close",), ("/",), ("open",), ("open", "a"), (1,), (None,),
            ("open", "a", 1, ()), ("open", 1, "a"), ("a", 1), ("close", "a", 1), ("opens", "a", 1), (None, "a", 1),
            ("open", "", 1), ("open", "A", 1), ("open", "abcdefghi", 1), ("open", "any", 1), ("open", "other", 1),
            ("open", "where", 1), ("open", "a1", 1), ("open", "a b", 1), ("open", "a\n", 1), ("open", None, 1),
            ("open", ["a"], 1), ("open", b"a", 1), ("open", ("a",), 1), ("open", "a", -1), ("open", "a", True),
            ("open", "a", False), ("open", "a", "1"), ("open", "a", None), ("open", "a", 1.0), ("open", "a", [1]),
            (("close",),), Tree("a", 1), object(),
        ]
        for fault in faults:
            with self.subTest(repr(fault)):
                with self.assertRaises(NoTree) as caught:
                    Tree.from_events([fault])
                self.assertEqual(caught.exception.at, 0)
                with self.assertRaises(NoTree) as caught:
                    Tree.from_events((("open", "a", 1), ("open", "b", 2), fault, CLOSE))
                self.assertEqual(caught.exception.at, 2)

    def test_events_by_name_and_unchanged(self):
        events = list(SMALL_EVENTS)
        tree = Tree.from_events(events=events)
        self.assertEqual(tree, small_tree())
        self.assertEqual(events, SMALL_EVENTS)
        events.clear()
        self.assertEqual(tree, small_tree())

    def test_a_mark_of_events_may_have_many_digits(self):
        tree = Tree.from_events([("open", "a", 10 ** 13), CLOSE])
        self.assertEqual(tree.mark, 10 ** 13)

    def test_a_fault_changes_no_list(self):
        events = [("open", "a", 1), None]
        with self.assertRaises(NoTree):
            Tree.from_events(events)
        self.assertEqual(events, [("open", "a", 1), None])


if __name__ == "__main__":
    unittest.main()
