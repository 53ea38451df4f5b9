"""[43] and [44] The desk: its commands, its answers, and what it refuses."""

import unittest

from keptnomore.desk import Desk
from keptnomore.errors import (
    NoBundle, NoCommand, NoDocument, NoKinds, NoQuestion, NoRules, NotPending, NoTree, Refused, RefusedAt, Resting,
    TooGreat, TooMany, UnknownKind)
from keptnomore.houses import House
from keptnomore.kinds import Kinds
from keptnomore.questions import Question
from keptnomore.rules import Rules
from keptnomore.spaces import Space
from keptnomore.trees import events_of


def desk_of(*rows):
    desk = Desk()
    for row in rows:
        desk.say(row)
    return desk


SET = ("kinds kind A of a ; kind B of b where some A", "rules ", "ask later A", "ask is B", "begin")


def house_of(text):
    house = House(Space(Kinds.read("kind A of a\nkind B of b where some A"), Rules.read(""),
                        [Question.read("later A"), Question.read("is B")]))
    house.run(events_of(text))
    return house


class Answers(unittest.TestCase):
    def test_a_session(self):
        desk = Desk()
        self.assertEqual(len(desk), 0)
        for row, answer in (
                ("kinds kind A of a ; kind B of b where some A", "ok"), ("rules ", "ok"), ("ask later A", "ok"),
                ("ask is B", "ok"), ("begin", "ok"), ("may", "a b other"), ("pending", "none"), ("heaps", "none"),
                ("ending 5", "none"), ("take ", "none"), ("take x:1 b:2 x:3 / x:4 /", "none"),
                ("pending", "0:2 0:3 0:4 1:2"), ("heaps", "0:2 0:3,4 1:2"), ("may", "a b other /"),
                ("ending 5", "/ /"), ("why 1 2 9", "a:9 / / / | / /"), ("why 0 2 9", "/ a:9 / / | / /"),
                ("take a:5 b:6", "0:0:3 0:0:4 0:1:2"), ("take / /", "none"), ("put ", "none"),
                ("put x:10 / b:7 a:8 / /", "1:7"), ("take /", "none"), ("put a:11 /", "0:2")):
            with self.subTest(row):
                self.assertEqual(desk.say(row), answer)

    def test_take_and_put(self):
        desk = desk_of(*SET)
        self.assertEqual(desk.say(row="take x:1 b:2 /"), "none")
        self.assertEqual(desk.say("put x:3 / b:4 a:5 / x:6 / / x:7 /"), "1:4")
        self.assertEqual(desk.say("put a:8 /"), "0:2 0:3 0:4 0:7")
        self.assertEqual(desk.say("take b:9 a:10 / b:11 a:12 / / / /"), "1:1:9 4:1:11")
        self.assertEqual(desk.say("take x:1 x:2 / a:3 / /"), "3:0:2")

    def test_what_is_told_at_one_event(self):
        desk = desk_of(*SET)
        self.assertEqual(desk.say("take b:1 x:2 / b:3 / a:4"), "5:0:2 5:0:3 5:1:1")

    def test_kept(self):
        for text in ("", "x:1", "x:1 b:2 x:3 / x:4", "b:7 x:8 /"):
            desk = desk_of(*SET, f"take {text}")
            house = house_of(text)
            self.assertEqual(desk.say("kept"), house.kept().replace("\n", " ; "))
            self.assertNotIn("\n", desk.say("kept"))
        self.assertEqual(desk_of(*SET, "take x:1 x:2 /").say("kept"), desk_of(*SET, "take x:5 / zz:9 x:2 /").say("kept"))

    def test_texts(self):
        desk = desk_of("kinds kind A of a ; kind B of any where some A", "rules all B ; root A")
        with self.assertRaises(NoDocument):
            desk.say("begin")
        self.assertEqual(desk.say("rules root B ; root A"), "ok")
        self.assertEqual(desk.say("begin"), "ok")
        self.assertEqual(desk.say("may"), "a")
        self.assertEqual(desk.say("kinds "), "ok")
        self.assertEqual(desk.say("rules "), "ok")
        self.assertEqual(desk.say("begin"), "ok")
        self.assertEqual(desk.say("may"), "other")

    def test_an_empty_desk_can_begin(self):
        desk = desk_of("begin")
        self.assertEqual(desk.say("may"), "other")
        self.assertEqual(desk.say("take x:1 y:2 /"), "none")
        self.assertEqual(desk.say("ending 3"), "/")

    def test_drop(self):
        desk = desk_of("ask root", "ask not root", "ask root or not root")
        desk.say("begin")
        self.assertEqual(desk.say("take x:1"), "0:0:1 0:2:1")
        self.assertEqual(desk.say("drop 0"), "ok")
        desk.say("begin")
        self.assertEqual(desk.say("take x:1 x:2"), "0:1:1 1:0:2 1:1:2")
        self.assertEqual(desk.say("drop 1"), "ok")
        with self.assertRaises(NoCommand):
            desk.say("drop 1")
        self.assertEqual(desk.say("drop 0"), "ok")
        with self.assertRaises(NoCommand):
            desk.say("drop 0")
        desk.say("begin")
        self.assertEqual(desk.say("take x:1 x:2"), "none")

    def test_what_is_set_takes_the_house_away(self):
        for row in ("kinds kind A of a ; kind B of c", "rules ", "ask root", "drop 0"):
            desk = desk_of(*SET, "take x:1")
            self.assertEqual(desk.say(row), "ok")
            for command in ("kept", "take ", "put ", "pending", "heaps", "may", "ending 1", "why 0 1 2"):
                with self.assertRaises(NoCommand) as caught:
                    desk.say(command)
                self.assertEqual(caught.exception.row, command)
            self.assertEqual(desk.say("begin"), "ok")
            self.assertEqual(desk.say("ending 3"), "none")

    def test_begin_makes_a_house_at_rest(self):
        desk = desk_of(*SET, "take x:1 x:2")
        self.assertEqual(desk.say("begin"), "ok")
        self.assertEqual(desk.say("pending"), "none")
        self.assertEqual(desk.say("ending 1"), "none")


class Refusals(unittest.TestCase):
    def assert_raises(self, desk, command, error, **values):
        many = len(desk)
        with self.subTest(command):
            with self.assertRaises(error) as caught:
                desk.say(command)
            for name, value in values.items():
                self.assertEqual(getattr(caught.exception, name), value)
            self.assertEqual(len(desk), many)

    def test_no_commands(self):
        for row in ("", " ", "begin ", " begin", "Begin", "begins", "kept ", "kept x", "pending ", "heaps ", "may ",
                    "may  ", "kinds", "rules", "ask", "take", "put", "drop", "drop ", "drop x", "drop 00", "drop 01",
                    "drop -1", "drop 2", "drop 0 ", "drop 0 1", "drop  0", "drop 1234567890123", "ending", "ending ",
                    "ending x", "ending 1 2", "ending -1", "ending 05", "why", "why ", "why 0 2", "why 0 2 ", "why 0 2 9 9",
                    "why 0  2 9", "tell 5", "kept 1", "x 1 2 3", "why a 2 9", "why 0 2 09", "why  0 2 9", "tell x", "open x:1", "none", "ok", "take\n",
                    "begin\n", "kinds\nkind A of a", None, 1, True, ["begin"], ("begin",), {}, b"begin"):
            self.assert_raises(desk_of(*SET, "take x:1 x:2"), row, NoCommand, row=row)

    def test_without_a_house(self):
        desk = desk_of(*SET[:-1])
        for row in ("kept", "take ", "take x", "put ", "put x", "pending", "heaps", "may", "ending 1", "why 0 1 2"):
            self.assert_raises(desk, row, NoCommand, row=row)
            self.assert_raises(Desk(), row, NoCommand, row=row)

    def test_exceptions_of_what_it_calls(self):
        desk = desk_of(*SET, "take x:1 x:2")
        for row, error, values in (
                ("kinds kind A of a ; kind b", NoKinds, {"row": 1}), ("kinds  ; kind A of a", NoKinds, {"row": 0}),
                ("kinds kind A of a ;kind B of b", NoKinds, {"row": 0}), ("kinds kind A of a ; ", NoKinds, {"row": 1}),
                ("kinds  ", NoKinds, {"row": 0}),
                ("kinds " + " ; ".join([f"kind {kind} of x" for kind in "ABCDE"]), TooMany, {"word": "kinds"}),
                ("rules all", NoRules, {"row": 0}), ("rules all A ; root b", NoRules, {"row": 1}),
                ("rules " + " ; ".join(["all A"] * 4), TooMany, {"word": "rows"}),
                ("ask ", NoQuestion, {"at": 0}), ("ask is A ; is B", NoQuestion, {"at": 1}), ("ask is", NoQuestion, {"at": 1}),
                ("ask " + " and ".join(["root"] * 9), TooMany, {"word": "atoms"}),
                ("take x:3 // /", NoTree, {"at": 1}), ("take  x:3", NoTree, {"at": 0}), ("take x:3 ", NoTree, {"at": 1}),
                ("take / / /", RefusedAt, {"at": 2}), ("put x:3", NoBundle, {"at": 1}), ("put x:3 / /", NoBundle, {"at": 2}),
                ("put q", NoBundle, {"at": 0}), ("why 0 1 9", NotPending, {"question": 0, "mark": 1}),
                ("why 2 2 9", NotPending, {"question": 2, "mark": 2})):
            self.assert_raises(desk, row, error, **values)
            # The house is still there, as it was.
            self.assertEqual(desk.say("pending"), "0:2")
            self.assertEqual(desk.say("ending 1"), "/ /")
        self.assertEqual(desk.say("take a:3"), "none")

    def test_put_at_rest_and_what_is_refused(self):
        desk = desk_of("kinds kind A of a", "rules all A", "begin")
        self.assert_raises(desk, "put a:1 /", Resting)
        desk.say("take a:1")
        with self.assertRaises(Refused) as caught:
            desk.say("put a:2 / x:3 /")
        self.assertEqual(str(caught.exception.event), "a:2 / x:3 /")
        self.assertEqual(desk.say("may"), "a /")

    def test_exceptions_of_a_space(self):
        great = "first A or A then A or A next A or last A or some A or every A"
        for rows, error, values in (
                (["ask root"] * 4, TooMany, {"word": "questions"}),
                (["kinds kind A of a", "rules all B", "ask is C"], UnknownKind, {"kind": "B"}),
                (["kinds kind A of a", "ask is C"], UnknownKind, {"kind": "C"}),
                ([f"kinds kind A of a where {great}"], TooGreat, {"product": 216}),
                (["kinds kind A of a ; kind B of b", "rules root A ; root B"], NoDocument, {})):
            desk = desk_of(*rows)
            self.assert_raises(desk, "begin", error, **values)
            self.assert_raises(desk, "may", NoCommand, row="may")

    def test_the_number_of_commands(self):
        desk = Desk()
        for many, row in enumerate(SET + ("take x:1", "may", "kept", "pending", "heaps", "ending 1", "put ", "drop 0")):
            self.assertEqual(len(desk), many)
            desk.say(row)
            for bad in ("", "may ", "take q", "ask "):
                with self.assertRaises(Exception):
                    desk.say(bad)
        self.assertEqual(len(desk), len(SET) + 8)

    def test_desks_are_independent(self):
        one, other = desk_of(*SET), desk_of(*SET)
        one.say("take x:1 x:2")
        self.assertEqual(other.say("pending"), "none")
        self.assertFalse(one == other)


if __name__ == "__main__":
    unittest.main()
