"""[4] The exceptions: what they are derived from, and the values that they keep. [2] Lists in them are copied."""

import unittest

from keptnomore import errors

# The names of the values of each exception that is derived from KeptError.
KEPT = {
    "NoKinds": ("row",),
    "NoRules": ("row",),
    "NoQuestion": ("at",),
    "NoTree": ("at",),
    "NoBundle": ("at",),
    "TooMany": ("word",),
    "TooGreat": ("product",),
    "UnknownKind": ("kind",),
    "NoDocument": (),
    "NoEvent": ("event",),
    "Refused": ("event",),
    "RefusedAt": ("at",),
    "Resting": (),
    "OtherSpace": (),
    "NoCommand": ("row",),
}
ALL = dict(KEPT, NotPending=("question", "mark"))
WITH_VALUES = {name: names for name, names in ALL.items() if names}


class Derivation(unittest.TestCase):
    def test_kept_error_is_a_value_error(self):
        self.assertTrue(issubclass(errors.KeptError, ValueError))

    def test_each_is_derived_from_kept_error(self):
        for name in KEPT:
            with self.subTest(name):
                self.assertTrue(issubclass(getattr(errors, name), errors.KeptError))

    def test_not_pending_is_a_key_error_and_no_kept_error(self):
        self.assertTrue(issubclass(errors.NotPending, KeyError))
        self.assertFalse(issubclass(errors.NotPending, errors.KeptError))
        self.assertFalse(issubclass(errors.KeptError, errors.NotPending))

    def test_none_is_derived_from_another_one(self):
        for name in ALL:
            for other in ALL:
                if name != other:
                    with self.subTest(f"{name} from {other}"):
                        self.assertFalse(issubclass(getattr(errors, name), getattr(errors, other)))

    def test_each_is_defined_in_the_module(self):
        for name in ["KeptError", *ALL]:
            with self.subTest(name):
                self.assertEqual(getattr(errors, name).__module__, "keptnomore.errors")
                self.assertEqual(getattr(errors, name).__name__, name)


class Values(unittest.TestCase):
    def kept(self, error, names):
        return [getattr(error, name) for name in names]

    def test_by_position(self):
        for name, names in ALL.items():
            with self.subTest(name):
                values = [10 + k for k in range(len(names))]
                self.assertEqual(self.kept(getattr(errors, name)(*values), names), values)

    def test_by_name(self):
        for name, names in ALL.items():
            with self.subTest(name):
                values = {key: f"value of {key}" for key in names}
                error = getattr(errors, name)(**values)
                self.assertEqual(self.kept(error, names), list(values.values()))

    def test_not_pending_by_name_in_another_order(self):
        error = errors.NotPending(mark=7, question=2)
        self.assertEqual((error.question, error.mark), (2, 7))

    def test_values_of_any_kind(self):
        thing = object()
        values = [None, True, 0, -1, 10 ** 20, "", "text", b"x", 1.5, thing, (), [], {}, (1, "a"), {"a": 1}]
        for name, names in WITH_VALUES.items():
            for value in values:
                with self.subTest(f"{name} {value!r}"):
                    kept = self.kept(getattr(errors, name)(*[value for _ in names]), names)
                    self.assertEqual(kept, [value for _ in names])
                    self.assertIs(type(kept[0]), type(value))

    def test_a_value_that_can_not_be_copied_stays_itself(self):
        thing = object()
        for name, names in WITH_VALUES.items():
            with self.subTest(name):
                for kept in self.kept(getattr(errors, name)(*[thing for _ in names]), names):
                    self.assertIs(kept, thing)

    def test_a_list_is_copied(self):
        for name, names in WITH_VALUES.items():
            with self.subTest(name):
                passed = [1, 2]
                error = getattr(errors, name)(*[passed for _ in names])
                passed.append(3)
                self.assertEqual(self.kept(error, names), [[1, 2] for _ in names])

    def test_a_list_within_a_tuple_is_copied(self):
        for name, names in WITH_VALUES.items():
            with self.subTest(name):
                inner = ["a"]
                error = getattr(errors, name)(*[("open", inner, (inner, 1)) for _ in names])
                inner.append("b")
                self.assertEqual(self.kept(error, names), [("open", ["a"], (["a"], 1)) for _ in names])

    def test_a_list_within_a_list_is_copied(self):
        for name, names in WITH_VALUES.items():
            with self.subTest(name):
                inner = ["a"]
                error = getattr(errors, name)(*[[inner, 1] for _ in names])
                inner.clear()
                self.assertEqual(self.kept(error, names), [[["a"], 1] for _ in names])

    def test_what_is_passed_stays_unchanged(self):
        for name, names in WITH_VALUES.items():
            with self.subTest(name):
                passed = ["a", ("b", ["c"])]
                error = getattr(errors, name)(*[passed for _ in names])
                getattr(error, names[0]).append("d")
                self.assertEqual(passed, ["a", ("b", ["c"])])

    def test_they_are_raised_and_caught(self):
        for name, names in ALL.items():
            with self.subTest(name):
                base = KeyError if name == "NotPending" else ValueError
                with self.assertRaises(base) as caught:
                    raise getattr(errors, name)(*names)
                self.assertIs(type(caught.exception), getattr(errors, name))
                self.assertEqual(self.kept(caught.exception, names), list(names))

    def test_two_of_a_class_keep_their_own_values(self):
        one, other = errors.NoTree(1), errors.NoTree(2)
        self.assertEqual((one.at, other.at), (1, 2))


if __name__ == "__main__":
    unittest.main()
