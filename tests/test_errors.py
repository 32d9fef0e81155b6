"""Point 2 and the interface of mouthrules/errors.py."""

import copy
import inspect
import unittest

from mouthrules import errors

# Each class with the one straight above it and the names of its fields.
CLASSES = {
    "MouthError": (ValueError, ()),
    "NoKinds": (errors.MouthError, ("thing",)),
    "NoSign": (errors.MouthError, ("sign",)),
    "NoKey": (errors.MouthError, ("key",)),
    "NoWorth": (errors.MouthError, ("thing",)),
    "NoText": (errors.MouthError, ("thing",)),
    "NoTexts": (errors.MouthError, ("thing",)),
    "NoMost": (errors.MouthError, ("most",)),
    "NoWriting": (errors.MouthError, ("number",)),
    "NoRow": (errors.MouthError, ()),
    "Fault": (RuntimeError, ("word",)),
    "Ends": (RuntimeError, ()),
    "Shut": (RuntimeError, ()),
    "Busy": (RuntimeError, ()),
    "NoName": (KeyError, ("name",)),
    "Bare": (LookupError, ()),
    "TooMany": (OverflowError, ("many",)),
}


class NoWords:
    """A thing that can't be shown."""

    def __repr__(self):
        raise ArithmeticError("not shown")

    __str__ = __repr__


def things():
    endless = []
    endless.append(endless)
    deep = ()
    for _ in range(5000):
        deep = (deep,)
    return ["a", "", 0, -1, True, None, 1.5, b"a", (), ("name", "a"), [], ["a", ["b"]], {}, {"a": []},
            {1, 2}, object(), NoWords(), int, len, endless, deep, ValueError("a"), float("nan")]


class ErrorsTest(unittest.TestCase):
    def test_each_class_is_there_and_no_other(self):
        there = {name for name, thing in vars(errors).items() if inspect.isclass(thing)}
        self.assertEqual(there, set(CLASSES))

    def test_each_stands_straight_under_the_one_above_it(self):
        for name, (above, fields) in CLASSES.items():
            with self.subTest(name=name):
                made = getattr(errors, name)
                self.assertEqual(made.__bases__, (above,))
                self.assertEqual(made.__module__, "mouthrules.errors")

    def test_none_stands_under_another_of_them_but_under_mouth_error(self):
        for name in CLASSES:
            for other in CLASSES:
                if other in (name, "MouthError"):
                    continue
                with self.subTest(name=name, other=other):
                    self.assertFalse(issubclass(getattr(errors, name), getattr(errors, other)))

    def test_each_is_caught_by_itself_and_by_those_above_it_alone(self):
        outside = (ValueError, RuntimeError, KeyError, LookupError, IndexError, OverflowError,
                   ArithmeticError, TypeError, AttributeError, NotImplementedError, RecursionError)
        known = [getattr(errors, name) for name in CLASSES]
        for made in known:
            above = inspect.getmro(made)
            for catching in (*known, *outside):
                with self.subTest(made=made, catching=catching):
                    try:
                        raise made("a")
                    except catching:
                        caught = True
                    except Exception:
                        caught = False
                    self.assertEqual(caught, catching in above)

    def test_bare_is_no_key_error_and_refusals_are_no_run_time_errors(self):
        self.assertFalse(issubclass(errors.Bare, KeyError))
        self.assertFalse(issubclass(errors.NoKinds, RuntimeError))
        self.assertFalse(issubclass(errors.Fault, ValueError))

    def test_fields_are_the_very_things_handed_in(self):
        for name, (above, fields) in CLASSES.items():
            for field in fields:
                for thing in things():
                    with self.subTest(name=name, kind=thing.__class__):
                        made = getattr(errors, name)
                        self.assertIs(getattr(made(thing), field), thing)
                        self.assertIs(getattr(made(**{field: thing}), field), thing)

    def test_fields_belong_to_one_object_alone(self):
        one, other = errors.NoKinds([1]), errors.NoKinds([2])
        self.assertEqual((one.thing, other.thing), ([1], [2]))

    def test_a_field_is_needed_and_just_one(self):
        for name, (above, fields) in CLASSES.items():
            if fields:
                with self.subTest(name=name):
                    made = getattr(errors, name)
                    self.assertRaises(TypeError, made)
                    self.assertRaises(TypeError, made, 1, 2)

    def test_those_made_of_a_text_show_it(self):
        for name, (above, fields) in CLASSES.items():
            if not fields:
                with self.subTest(name=name):
                    self.assertEqual(str(getattr(errors, name)("some words")), "some words")

    def test_each_can_be_shown_whatever_it_is_made_of(self):
        for name, (above, fields) in CLASSES.items():
            if fields:
                for thing in things():
                    with self.subTest(name=name, kind=thing.__class__):
                        made = getattr(errors, name)(thing)
                        self.assertIsInstance(str(made), str)
                        self.assertIsInstance(repr(made), str)

    def test_a_copy_has_the_same_field(self):
        self.assertEqual(copy.copy(errors.NoSign("ab")).sign, "ab")


if __name__ == "__main__":
    unittest.main()
