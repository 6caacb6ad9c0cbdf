"""Moves: [17], [18], with [2], [3] and [9]."""

import copy
import inspect
import time
import unittest

from lagshift import moves as module
from lagshift.bars import least_beat
from lagshift.beats import run
from lagshift.errors import LagError, NoLags, NoRow, NotLet, TooEarly
from lagshift.lags import counts
from lagshift.moves import moved
from lagshift.nets import Net
from lagshift.waits import beat_of
from tests.slow import Slow, moved_by_hand, moved_counts
from tests.things import (bound_nets, few_registers, fixed_lags, fixed_net, fixed_rows, greatest_net, let_lags,
                          odd_things, small_net)

SUM = ("sum", 1)


def pipe():
    """An in, two gates and an out behind each other, with registers between."""
    return Net([("in", 0), SUM, ("first", 2), ("out", 0)], [(0, 1, (1, 2)), (1, 2, (3,)), (2, 3, (4, 5))])


def ring(many=3):
    """A ring of three gates without in and out; one doubles what comes."""
    return Net([SUM] * 3, [(0, 1, (5,) * many), (0, 1, (7,) * many), (1, 2, ()), (2, 0, (1,))])


class ByHand(unittest.TestCase):
    def test_no_lags_is_as_run_tells(self):
        for seed in range(30):
            net = fixed_net(seed)
            rows = fixed_rows(seed, net, seed % 5)
            self.assertEqual(moved(net, [0] * len(net.gates), rows), run(net, rows))

    def test_a_lag_above_0(self):
        net, outs = moved(pipe(), [0, 1, 0, 0], [[10]])
        # The rows of worths: 1 2 10, 3 1, 4 5 3; behind one beat, with a beat less seen by gate 1.
        self.assertEqual(net.wires, [(0, 1, (1, 2, 10)), (1, 2, ()), (2, 3, (5, 3))])
        self.assertEqual(outs, [[4]])

    def test_a_lag_below_0(self):
        net, outs = moved(pipe(), [0, -1, 0, 0], [[10]])
        self.assertEqual(net.wires, [(0, 1, (10,)), (1, 2, (1, 2)), (2, 3, (5, 3))])
        self.assertEqual(outs, [[4]])
        net, outs = moved(pipe(), [0, -2, 0, 0], [])
        self.assertEqual(net.wires, [(0, 1, ()), (1, 2, (3, 1, 2)), (2, 3, (4, 5))])
        self.assertEqual(outs, [])

    def test_lags_both_above_and_below_0(self):
        net, outs = moved(pipe(), [0, -1, 1, 0], [[10], [20]])
        self.assertEqual(net.wires, [(0, 1, (20,)), (1, 2, (1, 2, 10)), (2, 3, (3,))])
        self.assertEqual(outs, [[4], [5]])

    def test_a_gate_that_makes_something(self):
        net = Net([("in", 0), ("sum", 1), ("out", 0)], [(0, 1, (1,)), (0, 1, (2, 3)), (1, 2, (9,))])
        told, outs = moved(net, [0, -1, 0], [])
        self.assertEqual((told.wires, outs), ([(0, 1, ()), (0, 1, (3,)), (1, 2, (9, 3))], []))
        told, outs = moved(net, [0, -1, 0], [[50]])
        self.assertEqual((told.wires, outs), ([(0, 1, ()), (0, 1, (50,)), (1, 2, (3, 53))], [[9]]))
        told, outs = moved(net, [0, 1, 0], [[50]])
        self.assertEqual((told.wires, outs), ([(0, 1, (1, 50)), (0, 1, (2, 3, 50)), (1, 2, ())], [[9]]))

    def test_more_rows_than_are_wanted(self):
        rows = [[10], [20], [30], [40]]
        net, outs = moved(pipe(), [0, 1, 0, 0], rows)
        self.assertEqual(net.wires, [(0, 1, (20, 30, 40)), (1, 2, ()), (2, 3, (2, 10))])
        self.assertEqual(outs, [[4], [5], [3], [1]])

    def test_no_rows_where_no_lag_is_above_0(self):
        told, outs = moved(ring(), [-1, -1, -1], [])
        self.assertEqual((told, outs), (run(ring(), [[]])[0], []))

    def test_from_a_gate_to_itself(self):
        for lag in (-2, -1, 0, 1, 2):
            told, outs = moved(Net([("sum", 1)], [(0, 0, (1, 2, 3)), (0, 0, (10,))]), [lag], [[], []])
            # Worths of the gate: 11 13 16 17 ..; rows of worths 1 2 3 11 13 .. and 10 11 13 ..
            row = [1, 2, 3, 11, 13, 16, 27, 40, 56]
            other = [10, 11, 13, 16, 27, 40, 56]
            self.assertEqual(told.wires, [(0, 0, tuple(row[2 - lag:5 - lag])), (0, 0, (other[2 - lag],))])

    def test_wires_without_registers_on_either_side(self):
        net = Net([("in", 0), SUM, ("out", 0)], [(0, 1, ()), (1, 2, (5,))])
        told, outs = moved(net, [0, 1, 0], [[7]])
        self.assertEqual((told.wires, outs), ([(0, 1, (7,)), (1, 2, ())], [[5]]))

    def test_kinds(self):
        told = moved(pipe(), [0, 1, 0, 0], [[10]])
        self.assertEqual((type(told), len(told), type(told[0]), type(told[1])), (tuple, 2, Net, list))
        self.assertEqual([type(outs) for outs in told[1]], [list])
        self.assertEqual([type(wire[2]) for wire in told[0].wires], [tuple] * 3)


class RowsOfWorths(unittest.TestCase):
    def check(self, net, lags, rows):
        told, outs = moved(net, lags, rows)
        self.assertEqual(told, moved_by_hand(net, lags, rows))
        self.assertEqual(outs, Slow(net, rows).outs())
        self.assertEqual([len(wire[2]) for wire in told.wires], moved_counts(net, lags))

    def test_against_the_slow_way(self):
        above = below = both = 0
        for seed in range(200):
            net = fixed_net(seed, 3 + seed % 6, 6 + seed % 9, 1 + seed % 4)
            lags = let_lags(seed, net, 10 + seed % 60)
            above, below = above + (max(lags) > 0), below + (min(lags) < 0)
            both += max(lags) > 0 and min(lags) < 0
            for more in (0, 1, 7):
                self.check(net, lags, fixed_rows(seed, net, max(0, max(lags)) + more))
        self.assertGreater(min(above, below, both), 30)

    def test_lags_of_500(self):
        for lags in ([-500] * 3, [500] * 3, [-500, -499, -499], [500, 499, 499], [499, 500, 500]):
            net = ring()
            self.assertGreaterEqual(min(counts(net, lags)), 0)
            self.check(net, lags, [[]] * max(0, max(lags)))
        wide = Net([SUM, ("sum", 2), ("out", 0)], [(1, 0, ()), (1, 1, (3,)), (1, 2, (4, 5))])
        self.check(wide, [500, 0, 0], [[]] * 500)
        self.check(wide, [500, -500, 0], [[]] * 500)
        self.check(wide, [-500, -500, 0], [])
        self.check(wide, [-500, -500, 0], [[]] * 9)

    def test_no_wires(self):
        for lags in ([0, 0], [0, -500], [0, -3]):
            self.assertEqual(moved(Net([("in", 0), SUM], []), lags, []), (Net([("in", 0), SUM], []), []))
        told = moved(Net([("in", 0), SUM], []), [0, 2], [[1], [2]])
        self.assertEqual(told, (Net([("in", 0), SUM], []), [[], []]))

    def test_never_asks_what_is_put_in_behind_rows(self):
        # Behind 3 beats gate 1 is asked for 3 more, which hang on the three registers ahead of it alone.
        net = Net([("in", 0), SUM, ("out", 0)], [(0, 1, (1, 2, 3)), (1, 2, ())])
        told, outs = moved(net, [0, -3, 0], [[60], [70], [80]])
        self.assertEqual(told.wires, [(0, 1, ()), (1, 2, (60, 70, 80))])
        self.assertEqual(outs, [[1], [2], [3]])


class FromThenOn(unittest.TestCase):
    def check(self, net, lags, rows, behind):
        told, outs = moved(net, lags, rows)
        first, ahead = run(net, rows)
        self.assertEqual(outs, ahead)
        self.assertEqual(run(told, behind)[1], run(first, behind)[1])

    def test_tells_what_the_first_net_would_have_told(self):
        for seed in range(120):
            net = fixed_net(seed, 3 + seed % 8, 6 + seed % 15, 1 + seed % 4)
            lags = let_lags(seed, net, 10 + seed % 60)
            rows = fixed_rows(seed, net, max(0, max(lags)) + seed % 3)
            for turn in range(2):
                self.check(net, lags, rows, fixed_rows(seed + 77 + turn, net, 12))

    def test_with_the_lags_of_the_least_beat(self):
        faster = 0
        for seed in range(60):
            net = few_registers(seed, 7, 12)
            beat, lags = least_beat(net)
            rows = fixed_rows(seed, net, max(0, max(lags)))
            self.check(net, lags, rows, fixed_rows(seed + 5, net, 20))
            self.assertLessEqual(beat_of(moved(net, lags, rows)[0]), beat)
            faster += beat < beat_of(net)
        self.assertGreater(faster, 5)

    def test_registers_are_those_of_counts(self):
        for seed in range(60):
            net = fixed_net(seed)
            lags = let_lags(seed, net)
            told = moved(net, lags, fixed_rows(seed, net, max(0, max(lags))))[0]
            self.assertEqual([len(wire[2]) for wire in told.wires], counts(net, lags))
            self.assertEqual(told.gates, net.gates)
            self.assertEqual([wire[:2] for wire in told.wires], [wire[:2] for wire in net.wires])


class BehindEachOther(unittest.TestCase):
    def test_by_lags_and_then_others_is_by_their_sums(self):
        seen = 0
        for seed in range(100):
            net = fixed_net(seed, 3 + seed % 6, 6 + seed % 9, 1 + seed % 4)
            lags = let_lags(seed, net)
            rows = fixed_rows(seed, net, max(0, max(lags)) + seed % 2)
            first, outs = moved(net, lags, rows)
            others = let_lags(seed + 40, first)
            behind = fixed_rows(seed + 9, net, max(0, max(others)) + seed % 3)
            sums = [one + other for one, other in zip(lags, others)]
            second, more = moved(first, others, behind)
            self.assertEqual((second, outs + more), moved(net, sums, rows + behind))
            seen += any(lags) and any(others)
        self.assertGreater(seen, 50)

    def test_moved_back_it_stands_as_the_first_one(self):
        for seed in range(100):
            net = fixed_net(seed, 3 + seed % 6, 6 + seed % 9, 1 + seed % 4)
            lags = let_lags(seed, net)
            rows = fixed_rows(seed, net, max(0, max(lags)))
            back = [-lag for lag in lags]
            behind = fixed_rows(seed + 9, net, max(0, max(back)))
            there, outs = moved(net, lags, rows)
            again, more = moved(there, back, behind)
            self.assertEqual((again, outs + more), run(net, rows + behind))

    def test_by_hand(self):
        there, outs = moved(pipe(), [0, 1, 0, 0], [[10]])
        again, more = moved(there, [0, -1, 0, 0], [])
        self.assertEqual((again, outs + more), run(pipe(), [[10]]))


class Refused(unittest.TestCase):
    def refused(self, error, net, lags, rows):
        with self.assertRaises(error) as caught:
            moved(net, lags, rows)
        self.assertIs(type(caught.exception), error)
        self.assertIsInstance(caught.exception, LagError)
        return caught.exception

    def test_no_lags_first(self):
        for rows in ([], [[1]], None, [[97]], 5, [None]):
            for lags in odd_things() + [[], [0, 0, 0], [0, 501, 0, 0], [0, 0, True, 0], [1, 0, 0, 0], (0, 0, 0, 0),
                                        [0, -9, 0, 1], [0, "1", 0, 0], {}, "", "0000"]:
                self.refused(NoLags, pipe(), lags, rows)

    def test_then_not_let_with_the_first_wire(self):
        for rows in ([], [[1]], None, [[97]], odd_things(), [[1]] * 9):
            for lags, wire in (([0, -3, 0, 0], 0), ([0, 2, 0, 0], 1), ([0, 0, 3, 0], 2), ([0, -3, 3, 0], 0),
                               ([0, 5, 3, 0], 1), ([0, 500, 500, 0], 2), ([0, -500, -500, 0], 0)):
                self.assertEqual(self.refused(NotLet, pipe(), lags, rows).wire, wire)

    def test_the_first_wire_of_many(self):
        for seed in range(60):
            net = fixed_net(seed)
            lags = fixed_lags(seed, net, 2)
            bad = [k for k, many in enumerate(moved_counts(net, lags)) if many < 0]
            if bad:
                refusal = self.refused(NotLet, net, lags, None)
                self.assertEqual((refusal.wire, type(refusal.wire)), (bad[0], int))

    def test_then_no_row(self):
        for lags in ([0, 0, 0, 0], [0, 1, 0, 0], [0, 1, 2, 0], [0, -1, 0, 0]):
            for rows in odd_things() + ["", "1", 0, ([1],), (), {0: [1]}, [1], [[1, 2]], [[]], [[97]], [[-1]], [[True]],
                                        [(1,)], [None], [[1], None], [[1], [1], [1], [97]], [[1], [1], [1], [1, 1]]]:
                self.refused(NoRow, pipe(), lags, rows)
        for thing in odd_things():
            self.refused(NoRow, pipe(), [0, 1, 2, 0], [[1], [1], [thing]])
            self.refused(NoRow, pipe(), [0, 1, 2, 0], [[1], [1], thing])

    def test_then_too_early(self):
        for lags, needed in (([0, 1, 0, 0], 1), ([0, 1, 1, 0], 1), ([0, 1, 2, 0], 2), ([0, -1, 2, 0], 2),
                             ([0, -2, 1, 0], 1), ([0, 3, 2, 0], 3)):
            for there in range(needed):
                refusal = self.refused(TooEarly, pipe(), lags, [[1]] * there)
                self.assertEqual((refusal.rows, type(refusal.rows)), (needed, int))
            self.assertIs(type(moved(pipe(), lags, [[1]] * needed)), tuple)

    def test_too_early_for_500(self):
        for there in (0, 1, 100, 499):
            self.assertEqual(self.refused(TooEarly, ring(), [500, 499, 499], [[]] * there).rows, 500)
        self.assertIs(type(moved(ring(), [-500] * 3, [])), tuple)

    def test_too_early_also_of_a_gate_without_wires(self):
        net = Net([("in", 0), SUM], [])
        self.assertEqual(self.refused(TooEarly, net, [0, 2], [[1]]).rows, 2)

    def test_what_was_refused_stands_as_ahead(self):
        net, rows = pipe(), [[1], [2], [97]]
        for lags in ([0, 501, 0, 0], [0, 2, 0, 0], [0, 1, 0, 0]):
            ahead = list(lags)
            with self.assertRaises(LagError):
                moved(net, lags, rows)
            self.assertEqual((net, lags, rows), (pipe(), ahead, [[1], [2], [97]]))


class Untouched(unittest.TestCase):
    def test_net_lags_and_rows_stand_as_ahead(self):
        for seed in range(20):
            net = fixed_net(seed)
            lags = let_lags(seed, net)
            rows = fixed_rows(seed, net, max(0, max(lags)) + 1)
            ahead = copy.deepcopy((lags, rows))
            told = moved(net, lags, rows)
            self.assertEqual((net, (lags, rows)), (fixed_net(seed), ahead))
            self.assertEqual(moved(net, lags, rows), told)

    def test_a_new_net_with_lists_of_its_own(self):
        for lags in ([0, 0, 0, 0], [0, 1, 0, 0], [0, -1, 0, 0]):
            net = pipe()
            rows = [[10]]
            expected = moved(net, lags, rows)
            told, outs = moved(net, lags, rows)
            told.gates.clear()
            told.wires.clear()
            outs[0].append(5)
            outs.append(7)
            self.assertEqual((net, rows), (pipe(), [[10]]))
            self.assertEqual(moved(net, lags, rows), expected)
            net.wires.clear()
            net.gates.clear()
            self.assertEqual(expected, moved(pipe(), lags, [[10]]))

    def test_outs_lists_are_not_one_another(self):
        outs = moved(small_net(), [0, 0, 0], [[1], [1], [1]])[1]
        self.assertEqual(len({id(one) for one in outs}), 3)


class Bounds(unittest.TestCase):
    def test_greatest_nets_in_a_short_time(self):
        for at, net in enumerate(bound_nets()):
            lags = let_lags(at, net, 200)
            rows = fixed_rows(at, net, 100)
            began = time.monotonic()
            told, outs = moved(net, lags, rows)
            self.assertLess(time.monotonic() - began, 3)
            self.assertEqual([len(wire[2]) for wire in told.wires], moved_counts(net, lags))
            behind = fixed_rows(at + 3, net, 5)
            self.assertEqual(run(told, behind)[1], run(run(net, rows)[0], behind)[1])
            self.assertEqual(outs, run(net, rows)[1])

    def test_lags_far_below_0_in_a_short_time(self):
        held = (3, 5)
        net = Net([("sum", 9)] * 12, [(k % 12, (k + 1) % 12, held) for k in range(30)])
        began = time.monotonic()
        told = moved(net, [-500] * 12, [[]] * 100)[0]
        self.assertLess(time.monotonic() - began, 3)
        self.assertEqual(told, run(net, [[]] * 600)[0])

    def test_as_few_rows_as_let(self):
        net = greatest_net()
        lags = let_lags(8, net, 200)
        needed = max(lags)
        self.assertGreater(needed, 2)
        rows = fixed_rows(1, net, needed)
        self.assertEqual(moved(net, lags, rows)[0], moved_by_hand(net, lags, rows))
        with self.assertRaises(TooEarly):
            moved(net, lags, rows[1:])


class Interface(unittest.TestCase):
    def test_names_and_arguments(self):
        self.assertEqual(moved.__module__, "lagshift.moves")
        self.assertEqual(module.moved, moved)
        self.assertEqual(list(inspect.signature(moved).parameters), ["net", "lags", "rows"])

    def test_by_name_and_in_another_order(self):
        told = moved(pipe(), [0, 1, 0, 0], [[10]])
        self.assertEqual(moved(rows=[[10]], lags=[0, 1, 0, 0], net=pipe()), told)
        self.assertEqual(moved(pipe(), rows=[[10]], lags=[0, 1, 0, 0]), told)


if __name__ == "__main__":
    unittest.main()
