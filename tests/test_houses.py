"""[26] to [30] Houses: taking events, rows and walks, what may come, endings, copies and trials."""

import unittest

from keptnomore.errors import KeptError, NoEvent, Refused, RefusedAt
from keptnomore.houses import House
from keptnomore.kinds import Kinds
from keptnomore.questions import Question
from keptnomore.rules import Rules
from keptnomore.spaces import Space
from keptnomore.trees import Tree, events_of
from tests.drawn import CLOSE, Slow, depth_of, drawn_events, drawn_space, names_of, seeded

TWO = "kind A of a\nkind B of b"


def house_of(questions=(), kinds=TWO, rules=""):
    return House(Space(Kinds.read(kinds), Rules.read(rules), [Question.read(text) for text in questions]))


def after(house, text):
    house.run(events_of(text))
    return house


class Base(unittest.TestCase):
    def assert_refused(self, house, event):
        kept = house.kept()
        with self.assertRaises(Refused) as caught:
            house.take(event)
        self.assertEqual(caught.exception.event, event)
        self.assertEqual(house.kept(), kept)


class Taking(Base):
    def test_the_example(self):
        house = house_of(["above ( is B and later A )"])
        self.assertEqual(house.run([("open", "r", 1), ("open", "b", 2), ("open", "x", 3)]), [])
        self.assertEqual(house.pending(), [(0, 3)])
        self.assertEqual(house.run([("close",), ("close",), ("open", "a", 4)]), [(2, 0, 3)])

    def test_a_node_may_be_told_at_its_own_opening(self):
        house = house_of(["is A", "root", "not later A"])
        self.assertEqual(house.take(("open", "a", 7)), [(0, 7), (1, 7), (2, 7)])
        self.assertEqual(house.take(event=("open", "a", 3)), [(0, 3)])
        self.assertEqual(house(("open", "b", 5)), [])
        self.assertEqual(house(event=CLOSE), [])
        self.assertEqual(house.pending(), [(2, 3), (2, 5)])
        self.assertEqual(house(CLOSE), [(2, 5)])
        self.assertEqual(house.pending(), [(2, 3)])
        self.assertEqual(house(("open", "a", 9)), [(0, 9)])
        self.assertEqual(house.pending(), [(2, 9)])

    def test_what_is_told_is_ascending(self):
        house = house_of(["earlier A or later A", "later A", "not later B"])
        self.assertEqual(house.run(events_of("x:90 x:8 / x:30 / x:7 /")), [(0, 2, 90)])
        self.assertEqual(house.take(("open", "a", 1)), [(0, 7), (0, 8), (0, 30), (1, 7), (1, 8), (1, 30)])
        self.assertEqual(house.run(events_of("/ x:2 /")), [(1, 0, 2)])
        self.assertEqual(house.take(CLOSE), [(2, 1), (2, 2), (2, 7), (2, 8), (2, 30)])

    def test_a_root_is_told_at_its_close_at_the_latest(self):
        house = house_of(["is A", "not is A"], "kind A of any where count B mod 2 is 1\nkind B of b")
        self.assertEqual(house.run(events_of("x:1 b:2 /")), [(2, 1, 2)])
        self.assertEqual(house.pending(), [(0, 1), (1, 1)])
        self.assertEqual(house.take(CLOSE), [(0, 1)])
        self.assertEqual(house.run(events_of("x:3 /")), [(1, 1, 3)])

    def test_no_events(self):
        house = house_of(["is A"])
        for event in (None, 1, "a:1", (), ("close", 1), ["close"], ("open",), ("open", "a"), ("open", "a", -1),
                      ("open", "a", True), ("open", "A", 1), ("open", "any", 1), ("open", "abcdefghi", 1),
                      ("open", "a", 1, 2), ["open", "a", 1], {"close": 1}, ("shut",)):
            with self.assertRaises(NoEvent) as caught:
                house.take(event)
            self.assertEqual(caught.exception.event, event)
            with self.assertRaises(NoEvent):
                house(event)
        self.assertIs(house.is_resting, True)

    def test_a_close_at_rest_is_refused(self):
        house = house_of()
        self.assert_refused(house, CLOSE)
        after(house, "a:1 /")
        self.assert_refused(house, CLOSE)
        with self.assertRaises(Refused):
            house(CLOSE)

    def test_rules_refuse(self):
        house = house_of(rules="root A")
        self.assert_refused(house, ("open", "b", 1))
        self.assert_refused(house, ("open", "zz", 1))
        after(house, "a:1 b:2")
        house = house_of(rules="all A", kinds="kind A of a\nkind B of b")
        after(house, "a:1")
        self.assert_refused(house, ("open", "b", 2))
        after(house, "a:2 / /")
        house = house_of(kinds="kind A of any where first B\nkind B of b", rules="root A")
        after(house, "x:1")
        self.assert_refused(house, CLOSE)
        self.assert_refused(house, ("open", "x", 2))
        after(house, "b:2 / x:3 / /")

    def test_an_open_whose_tree_can_not_be_ended_is_refused(self):
        # A node of the kind B must be without children of the kind B, and each node is of B or has some B.
        house = house_of(kinds="kind A of a where some B\nkind B of b where every A\nkind C of a b where not some C",
                         rules="all C")
        self.assertEqual(house.may(), ["a", "b"])
        after(house, "a:1")
        for name in ("a", "b"):
            self.assert_refused(house, ("open", name, 2))
        self.assertEqual(house.may(), ["/"])

    def test_documents_come_one_behind_the_other(self):
        house = house_of(["later A", "is B"])
        first = house.run(events_of("x:1 b:2 / a:3 / /"))
        self.assertEqual(first, [(1, 1, 2), (3, 0, 2)])
        self.assertEqual(house.run(events_of("x:1 b:2 / a:3 / / x:1 b:2 / a:3 / /")),
                         first + [(at + 6, question, mark) for at, question, mark in first])


class Rows(Base):
    def test_run(self):
        house = house_of(["is A", "later A"])
        row = events_of("r:1 b:2 / a:3 / /")
        self.assertEqual(house.copied().run(row), [(3, 0, 3), (3, 1, 2)])
        self.assertEqual(house.copied().run(tuple(row)), [(3, 0, 3), (3, 1, 2)])
        self.assertEqual(house.run(events=row[:3]), [])
        self.assertEqual(house.run([]), [])
        self.assertEqual(house.run(row[3:]), [(0, 0, 3), (0, 1, 2)])

    def test_run_leaves_the_house_if_an_event_can_not_be_taken(self):
        house = after(house_of(["is A", "later A"], rules="root A"), "a:1 b:2")
        kept = house.kept()
        for row, error, value in ((events_of("/ a:3 / / /"), RefusedAt, 4), (events_of("/ / b:3"), RefusedAt, 2),
                                  ([CLOSE, CLOSE, CLOSE, "a:1"], RefusedAt, 2), ([CLOSE, "a:1", CLOSE], NoEvent, "a:1"),
                                  ([None], NoEvent, None)):
            with self.subTest(row):
                with self.assertRaises(error) as caught:
                    house.run(row)
                self.assertEqual(getattr(caught.exception, "at" if error is RefusedAt else "event"), value)
                self.assertEqual(house.kept(), kept)
                self.assertEqual(house.depth, 2)

    def test_over(self):
        house = house_of(["is A", "later A"])
        row = events_of("r:1 b:2 / b:3 / a:4 / a:5 / /")
        walk = house.copied().over(events=row)
        self.assertIs(iter(walk), walk)
        self.assertEqual(list(walk), house.copied().run(row))
        self.assertEqual(list(house.copied().over(tuple(row))), house.run(row))
        self.assertEqual(list(house.over([])), [])

    def test_over_takes_none_behind_what_was_told_last(self):
        house = house_of(["is A", "later A"])
        row = events_of("r:1 b:2 / b:3 / a:4 / a:5 / /")
        for many, taken in ((1, 6), (2, 6), (3, 6), (4, 8), (5, 8)):
            walker = house.copied()
            walk = walker.over(row)
            self.assertEqual(walker.kept(), house.kept())
            for _ in range(many):
                next(walk)
            walk.close()
            other = house.copied()
            other.run(row[:taken])
            self.assertEqual(walker.kept(), other.kept(), many)
        walker = house.copied()
        for at, question, mark in walker.over(row):
            self.assertEqual((at, question, mark), (5, 0, 4))
            break
        self.assertEqual(walker.depth, 2)

    def test_over_raises_when_it_comes_to_it(self):
        house = house_of(["is A"], rules="root A")
        for last, error in ((("open", "b", 9), RefusedAt), ("close", NoEvent)):
            walker = house.copied()
            walk = walker.over(events_of("a:1 b:2 / a:3 / /") + [last, CLOSE])
            self.assertEqual([next(walk), next(walk)], [(0, 0, 1), (3, 0, 3)])
            with self.assertRaises(error) as caught:
                next(walk)
            if error is RefusedAt:
                self.assertEqual(caught.exception.at, 6)
            self.assertIs(walker.is_resting, True)
        walker = house.copied()
        with self.assertRaises(RefusedAt) as caught:
            list(walker.over(events_of("a:1 b:2 / / / a:1")))
        self.assertEqual(caught.exception.at, 4)
        self.assertEqual(walker.depth, 0)

    def test_errors_are_of_the_family(self):
        house = house_of()
        with self.assertRaises(KeptError):
            house.run([CLOSE])


class Coming(Base):
    def test_may(self):
        house = house_of(kinds="kind A of c b where some B\nkind B of d a")
        self.assertEqual(house.may(), ["a", "b", "c", "d", "other"])
        after(house, "x:1")
        self.assertEqual(house.may(), ["a", "b", "c", "d", "other", "/"])
        house = house_of(kinds="kind A of any where last B\nkind B of b other", rules="root A")
        after(house, "x:1")
        self.assertEqual(house.may(), ["b", "other"])
        after(house, "b:2 /")
        self.assertEqual(house.may(), ["b", "other", "/"])
        house = house_of(rules="all A")
        self.assertEqual(house.may(), ["a"])

    def test_depth_and_rest(self):
        house = house_of()
        self.assertEqual((house.depth, house.is_resting), (0, True))
        for depth in (1, 2, 3):
            house.take(("open", "a", depth))
            self.assertEqual((house.depth, house.is_resting), (depth, False))
        after(house, "/ / /")
        self.assertEqual((house.depth, house.is_resting), (0, True))
        self.assertIs(house.is_resting, True)
        for name in ("depth", "is_resting", "space"):
            with self.assertRaises(AttributeError):
                setattr(house, name, 1)

    def test_ending(self):
        house = house_of(kinds="kind A of any where count B mod 3 is 2 and last C\nkind B of b\nkind C of c where some B",
                         rules="root A")
        self.assertEqual(house.ending(free=10), ())
        after(house, "x:1 b:2")
        self.assertEqual(house.ending(free=10), tuple(events_of("/ b:10 / c:11 b:12 / / /")))
        self.assertEqual(house.ending(free=0)[1], ("open", "b", 0))
        with self.assertRaises(TypeError):
            house.ending(10)

    def test_endings_of_drawn_houses(self):
        rng = seeded("endings")
        for _ in range(40):
            space = drawn_space(rng, questions=(0, 1))
            house = House(space)
            past = drawn_events(rng, house, rng.randint(1, 9))
            house.run(past)
            if house.is_resting:
                self.assertEqual(house.ending(free=100), ())
                continue
            kept = house.kept()
            ending = house.ending(free=100)
            self.assertIsInstance(ending, tuple)
            self.assertEqual(house.ending(free=100), ending)
            self.assertEqual(house.kept(), kept)
            self.assertTrue(space.rules.lets(space.kinds, Tree.from_events(past + list(ending))))
            marks = [event[2] for event in ending if len(event) == 3]
            self.assertEqual(marks, list(range(100, 100 + len(marks))))
            slow = Slow(space)
            for many in range(min(len(marks), 3)):
                self.assertEqual(list(slow.wholes(past, many)), [])

    def test_may_is_what_is_not_refused(self):
        rng = seeded("may")
        for _ in range(40):
            house = House(drawn_space(rng, questions=(0, 1)))
            for event in drawn_events(rng, house, 7):
                words = house.may()
                for name in names_of(house.space):
                    word = "other" if name == "zz" else name
                    other = house.copied()
                    if word in words:
                        other.take(("open", name, 500))
                        self.assertTrue(depth_of(other.ending(free=600)) < 0)
                    else:
                        self.assert_refused(other, ("open", name, 500))
                if "/" not in words:
                    self.assert_refused(house, CLOSE)
                house.take(event)


class Copies(Base):
    def setUp(self):
        self.house = after(house_of(["later A", "is A"]), "x:1 b:2 / b:3")
        self.text = self.house.kept()

    def test_copied(self):
        other = self.house.copied()
        self.assertIsInstance(other, House)
        self.assertIsNot(other, self.house)
        self.assertIs(other.is_alike(self.house), True)
        self.assertEqual(other.run(events_of("/ a:4")), [(1, 0, 2), (1, 0, 3), (1, 1, 4)])
        self.assertEqual(self.house.kept(), self.text)
        self.assertEqual(self.house.run(events_of("/ a:4")), [(1, 0, 2), (1, 0, 3), (1, 1, 4)])
        self.assertEqual(other.kept(), self.house.kept())

    def test_a_trial(self):
        with self.house.trial() as other:
            self.assertIs(other, self.house)
            other.run(events_of("/ a:4 / /"))
            self.assertIs(self.house.is_resting, True)
        self.assertEqual(self.house.kept(), self.text)
        self.assertEqual(self.house.pending(), [(0, 2), (0, 3)])

    def test_a_trial_begins_with_its_block(self):
        trial = self.house.trial()
        after(self.house, "/ b:4")
        text = self.house.kept()
        with trial as other:
            other.run(events_of("/ /"))
        self.assertEqual(self.house.kept(), text)
        self.assertNotEqual(self.house.kept(), self.text)

    def test_a_trial_that_is_left_by_an_error(self):
        with self.assertRaises(Refused):
            with self.house.trial() as other:
                other.run(events_of("/ / "[:-1]))
                other.take(CLOSE)
        self.assertEqual(self.house.kept(), self.text)
        with self.assertRaises(ZeroDivisionError):
            with self.house.trial() as other:
                other.take(CLOSE)
                1 // 0
        self.assertEqual(self.house.kept(), self.text)

    def test_trials_within_one_another(self):
        with self.house.trial() as one:
            one.take(CLOSE)
            text = one.kept()
            with one.trial() as two:
                two.take(CLOSE)
                with self.assertRaises(KeyError):
                    with two.trial() as three:
                        three.run(events_of("x:1 a:2"))
                        raise KeyError
                self.assertIs(one.is_resting, True)
            self.assertEqual(one.kept(), text)
        self.assertEqual(self.house.kept(), self.text)

    def test_a_trial_that_is_left_by_return_and_break(self):
        def work(house):
            with house.trial() as other:
                other.take(CLOSE)
                return other.depth

        self.assertEqual(work(self.house), 1)
        for _ in range(2):
            with self.house.trial() as other:
                other.take(CLOSE)
                break
        self.assertEqual(self.house.kept(), self.text)

    def test_tried(self):
        def work(house):
            self.assertIs(house, self.house)
            return house.run(events_of("/ a:4 / /")) + [house.is_resting]

        self.assertEqual(self.house.tried(work), [(1, 0, 2), (1, 0, 3), (1, 1, 4), True])
        self.assertEqual(self.house.tried(work=lambda house: None), None)
        self.assertEqual(self.house.kept(), self.text)

        def fail(house):
            house.take(CLOSE)
            raise LookupError("x")

        with self.assertRaises(LookupError):
            self.house.tried(fail)
        with self.assertRaises(Refused):
            self.house.tried(lambda house: [house.take(CLOSE) for _ in range(3)])
        self.assertEqual(self.house.kept(), self.text)
        self.assertEqual(self.house.tried(lambda house: house.tried(lambda inner: inner.take(CLOSE))), [])

    def test_is_alike(self):
        self.assertIs(self.house.is_alike(other=self.house), True)
        equal = after(House(Space(self.house.space.kinds, self.house.space.rules, self.house.space.questions)),
                      "x:1 b:2 / b:3")
        self.assertIs(self.house.is_alike(equal), True)
        self.assertIs(self.house.is_alike(after(equal, "/")), False)
        other = after(house_of(["later A"]), "x:1 b:2 / b:3")
        self.assertIs(self.house.is_alike(other), False)
        self.assertIs(house_of(["later A"]).is_alike(house_of(["later B"])), False)

    def test_houses_have_no_equality(self):
        self.assertFalse(self.house == self.house.copied())
        self.assertTrue(self.house == self.house)

    def test_space(self):
        space = Space(Kinds.read(TWO), Rules.read(""), [])
        self.assertTrue(House(space=space).space == space)

    def test_results_are_new(self):
        for method in ("pending", "heaps", "may", "hopes"):
            first = getattr(self.house, method)()
            self.assertIsInstance(first, list)
            first.append("x")
            self.assertNotIn("x", getattr(self.house, method)())
        told = self.house.copied().run([CLOSE])
        told.append(1)
        self.assertEqual(self.house.copied().run([CLOSE]), [])


if __name__ == "__main__":
    unittest.main()
