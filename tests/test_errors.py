"""The refusals: the interface's row of lagshift/errors.py, [2], [6]."""

import unittest

from lagshift import errors
from lagshift.errors import (LagError, NoBeat, NoForm, NoGates, NoLags, NoLagsThere, NoPaper, NoRing, NoRow,
                             NoStreams, NoText, NotLet, NoWires, TooEarly)
from tests.things import odd_things

WITH_FIELD = [(NoWires, "place"), (NoRing, "ring"), (NotLet, "wire"), (TooEarly, "rows"), (NoLagsThere, "bar")]
OF_TEXT = [NoGates, NoRow, NoLags, NoBeat, NoPaper, NoStreams, NoText, NoForm]
ALL = [kind for kind, field in WITH_FIELD] + OF_TEXT


def made(kind):
    """A refusal of this kind, made by hand."""
    return kind(3) if kind in [one for one, field in WITH_FIELD] else kind("a text")


class Classes(unittest.TestCase):
    def test_all_stand_straight_under_lag_error(self):
        self.assertEqual(LagError.__bases__, (ValueError,))
        for kind in ALL:
            self.assertEqual(kind.__bases__, (LagError,), kind)

    def test_all_are_defined_in_their_file(self):
        for kind in ALL + [LagError]:
            self.assertEqual(kind.__module__, "lagshift.errors")
            self.assertEqual(getattr(errors, kind.__name__), kind)

    def test_no_other_refusal_is_there(self):
        there = [name for name in vars(errors) if isinstance(vars(errors)[name], type)]
        self.assertEqual(sorted(there), sorted([kind.__name__ for kind in ALL] + ["LagError"]))

    def test_caught_as_itself_and_as_those_above(self):
        for kind in ALL:
            for above in (kind, LagError, ValueError):
                with self.assertRaises(above):
                    raise made(kind)

    def test_caught_as_no_other(self):
        for kind in ALL:
            for other in ALL:
                self.assertEqual(isinstance(made(kind), other), kind == other)


class Making(unittest.TestCase):
    def test_field_by_place_and_by_name_is_kept_as_it_is(self):
        things = odd_things() + [[], [1, [2]], "", "text", (), (1,), 0, -1, 10 ** 60, -10 ** 9000]
        for kind, field in WITH_FIELD:
            for thing in things:
                self.assertIs(getattr(kind(thing), field), thing)
                self.assertIs(getattr(kind(**{field: thing}), field), thing)

    def test_field_is_the_very_list(self):
        ring = [1, 2]
        error = NoRing(ring)
        ring.append(3)
        self.assertEqual(error.ring, [1, 2, 3])

    def test_no_field_or_two_are_not_taken(self):
        for kind, field in WITH_FIELD:
            with self.assertRaises(TypeError):
                kind()
            with self.assertRaises(TypeError):
                kind(1, 2)

    def test_can_be_shown_whatever_the_field(self):
        for kind, field in WITH_FIELD:
            self.assertIsInstance(str(kind(10 ** 9000)), str)

    def test_made_of_one_text(self):
        for kind in OF_TEXT + [LagError]:
            self.assertEqual(str(kind("why it is so")), "why it is so")
            self.assertEqual(str(kind("")), "")


if __name__ == "__main__":
    unittest.main()
