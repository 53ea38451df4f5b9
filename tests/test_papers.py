"""[36] and [37] Papers: what a house gives, and which papers hold."""

import unittest

from keptnomore.errors import KeptError, NotPending
from keptnomore.houses import House
from keptnomore.kinds import Kinds
from keptnomore.papers import Paper
from keptnomore.questions import Question
from keptnomore.rules import Rules
from keptnomore.spaces import Space
from keptnomore.trees import events_of
from tests.drawn import CLOSE, Slow, drawn_events, drawn_space, seeded


def space_of(kinds, rules="", *questions):
    return Space(Kinds.read(kinds), Rules.read(rules), [Question.read(text) for text in questions])


SPACE = space_of("kind A of a\nkind B of b where some A\nkind C of any", "all C", "later A", "is B", "root")
PAST = events_of("x:1 b:2 / b:3")


def row(text):
    return tuple(events_of(text))


YES = row("/ a:4 / /")
NO = row("/ /")


class Made(unittest.TestCase):
    def test_attributes_are_as_they_are_passed(self):
        paper = Paper(0, 2, YES, NO)
        self.assertEqual((paper.question, paper.mark, paper.yes, paper.no), (0, 2, YES, NO))
        paper = Paper(question="q", mark=None, yes=[1, ("x",)], no={"a": 1})
        self.assertEqual((paper.question, paper.mark, paper.yes, paper.no), ("q", None, [1, ("x",)], {"a": 1}))

    def test_later_changes_of_lists_have_no_effect(self):
        inner = [1]
        yes, no = [CLOSE, inner], (CLOSE, inner)
        paper = Paper(0, 2, yes, no)
        yes.append(CLOSE)
        inner.append(2)
        self.assertEqual(paper.yes, [CLOSE, [1]])
        self.assertEqual(paper.no, (CLOSE, [1]))

    def test_equality(self):
        self.assertTrue(Paper(0, 2, YES, NO) == Paper(0, 2, YES, NO))
        for other in (Paper(1, 2, YES, NO), Paper(0, 3, YES, NO), Paper(0, 2, NO, NO), Paper(0, 2, YES, YES),
                      Paper(0, 2, list(YES), NO), (0, 2, YES, NO), None):
            self.assertFalse(Paper(0, 2, YES, NO) == other)
            self.assertTrue(Paper(0, 2, YES, NO) != other)


class Holding(unittest.TestCase):
    def assert_holds(self, expected, question, mark, yes, no, past=PAST, space=SPACE):
        with self.subTest((question, mark, yes, no)):
            self.assertIs(Paper(question, mark, yes, no).holds(space, past), expected)

    def test_a_good_paper(self):
        self.assert_holds(True, 0, 2, YES, NO)
        self.assert_holds(True, 0, 3, YES, NO)
        self.assert_holds(True, 0, 3, row("/ x:9 / a:4 b:5 / / x:6 / /"), row("x:4 / / x:5 / /"))
        self.assert_holds(True, 1, 3, row("a:4 / / /"), NO)
        self.assert_holds(True, 0, 2, YES, NO, tuple(PAST))
        self.assertIs(Paper(0, 2, YES, NO).holds(space=SPACE, events=PAST), True)
        self.assertIs(Paper(0, 2, YES, NO).holds(Space(SPACE.kinds, SPACE.rules, SPACE.questions), PAST), True)

    def test_rows_that_are_no_going_ons(self):
        for bad in ((), row("/"), row("/ / /"), row("/ / x:9 /"), row("/ a:4 /"), (None,), ("/", "/"), (1, 2),
                    (CLOSE, ["close"]), ([],), row("/ a:4 /") + (("open", "A", 5), CLOSE, CLOSE), ({},),
                    (CLOSE, ("close", 1)), row("/") + (("open", "a", True), CLOSE, CLOSE)):
            self.assert_holds(False, 0, 2, bad, NO)
            self.assert_holds(False, 0, 2, YES, bad)

    def test_rows_that_are_no_tuples(self):
        self.assert_holds(False, 0, 2, list(YES), NO)
        self.assert_holds(False, 0, 2, YES, list(NO))
        for value in (None, 1, "/ /", {}, True):
            self.assert_holds(False, 0, 2, value, NO)
            self.assert_holds(False, 0, 2, YES, value)

    def test_the_question_selects_in_the_first_and_not_in_the_second(self):
        self.assert_holds(False, 0, 2, NO, YES)
        self.assert_holds(False, 0, 2, YES, YES)
        self.assert_holds(False, 0, 2, NO, NO)
        self.assert_holds(False, 1, 2, YES, NO)
        self.assert_holds(False, 2, 1, YES, NO)
        self.assert_holds(False, 0, 1, YES, NO)

    def test_documents_that_are_not_allowed(self):
        space = space_of("kind A of a x\nkind B of b", "all A", "later A")
        past = events_of("x:1 x:2")
        self.assert_holds(True, 0, 2, row("/ a:3 / /"), row("/ /"), past, space)
        self.assert_holds(False, 0, 2, row("/ a:3 b:4 / / /"), row("/ /"), past, space)
        self.assert_holds(False, 0, 2, row("/ a:3 / /"), row("/ b:4 / /"), past, space)
        root = space_of("kind A of any where count B mod 2 is 0\nkind B of b", "root A", "later B")
        self.assert_holds(True, 0, 2, row("/ b:3 / b:4 / /"), row("/ /"), past, root)
        self.assert_holds(False, 0, 2, row("/ b:3 / /"), row("/ /"), past, root)
        self.assert_holds(False, 0, 2, row("/ b:3 / b:4 / /"), row("/ x:3 b:4 / / x:5 / b:6 / /"), past, root)

    def test_numbers_of_questions(self):
        for question in (-1, 3, 4, True, False, None, "0", 0.0, (0,), [0], 10 ** 12):
            self.assert_holds(False, question, 2, YES, NO)

    def test_marks(self):
        for mark in (4, 7, -2, None, "2", True, 2.0, (2,), [2]):
            self.assert_holds(False, 0, mark, YES, NO)
        self.assert_holds(False, 0, 4, row("/ a:4 / a:5 / /"), row("/ a:4 / /"))

    def test_just_one_node_has_the_mark(self):
        self.assert_holds(False, 0, 2, row("/ a:2 / /"), NO)
        self.assert_holds(False, 0, 2, YES, row("/ x:2 / /"))
        self.assert_holds(True, 0, 2, row("/ a:9 / /"), row("/ x:9 / /"))

    def test_a_document_from_its_first_event_on(self):
        self.assert_holds(False, 0, 2, YES, NO, events_of("x:9 /") + PAST)
        self.assert_holds(False, 0, 2, YES, NO, PAST[1:])
        self.assert_holds(False, 0, 2, YES, NO, [])
        self.assert_holds(True, 0, 1, row("/ a:2 / /"), row("/ /"), events_of("x:5 x:1"))
        self.assert_holds(False, 0, 1, row("x:5 x:1 / a:2 / /"), row("x:5 x:1 / /"), [])


class Given(unittest.TestCase):
    def test_why(self):
        house = House(SPACE)
        house.run(PAST)
        self.assertEqual(house.pending(), [(0, 2), (0, 3), (1, 3)])
        self.assertTrue(house.why(0, 2, free=9) == Paper(0, 2, row("/ a:9 / /"), row("/ /")))
        self.assertTrue(house.why(question=1, mark=3, free=9) == Paper(1, 3, row("a:9 / / /"), row("/ /")))
        self.assertIsInstance(house.why(0, 2, free=9), Paper)
        with self.assertRaises(TypeError):
            house.why(0, 2, 9)

    def test_not_pending(self):
        house = House(SPACE)
        house.run(PAST)
        kept = house.kept()
        for question, mark in ((0, 1), (1, 2), (2, 1), (2, 2), (0, 4), (0, 99)):
            with self.assertRaises(NotPending) as caught:
                house.why(question, mark, free=9)
            self.assertEqual((caught.exception.question, caught.exception.mark), (question, mark))
            self.assertNotIsInstance(caught.exception, KeptError)
            self.assertIsInstance(caught.exception, KeyError)
        self.assertEqual(house.kept(), kept)
        with self.assertRaises(NotPending):
            House(SPACE).why(0, 2, free=9)

    def test_drawn_papers(self):
        shown = 0
        for seed in range(120):
            rng = seeded("papers", seed)
            space = drawn_space(rng, most=96, questions=(1, 3))
            house = House(space)
            past = drawn_events(rng, house, rng.randint(2, 12))
            house.run(past)
            kept = house.kept()
            for question, mark in house.pending():
                paper = house.why(question, mark, free=100)
                self.assertTrue(paper == house.why(question, mark, free=100))
                self.assertIs(paper.holds(space, past), True)
                self.assertIs(Paper(question, mark, paper.no, paper.yes).holds(space, past), False)
                self.assertIs(paper.holds(space, past[:-1]), False)
                for events in (paper.yes, paper.no):
                    marks = [event[2] for event in events if len(event) == 3]
                    self.assertEqual(marks, list(range(100, 100 + len(marks))))
                shown += 1
            self.assertEqual(house.kept(), kept)
        self.assertGreater(shown, 60)

    def test_as_few_events_as_possible(self):
        for seed in range(25):
            rng = seeded("few", seed)
            space = drawn_space(rng, most=24)
            slow = Slow(space)
            house = House(space)
            past = drawn_events(rng, house, rng.randint(2, 7))
            house.run(past)
            if not house.pending():
                continue
            fewest = {}
            for many in range(3):
                for events, tree in slow.wholes(past, many):
                    picked = slow.picked(tree)
                    for question, mark in house.pending():
                        fewest.setdefault((question, mark, mark in picked[question]), len(events))
            for question, mark in house.pending():
                paper = house.why(question, mark, free=100)
                for is_yes, events in ((True, paper.yes), (False, paper.no)):
                    few = fewest.get((question, mark, is_yes))
                    self.assertTrue(len(events) == few if few else len(events) > 4 + house.depth)


if __name__ == "__main__":
    unittest.main()
