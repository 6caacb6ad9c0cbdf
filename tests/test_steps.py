"""Steps: [24], with [2], [3] and [9]."""

import copy
import inspect
import time
import unittest

from lagshift import steps as module
from lagshift.bars import least_beat
from lagshift.errors import LagError, NoLags, NotLet
from lagshift.moves import moved
from lagshift.nets import Net
from lagshift.steps import steps, steps_fault
from tests.slow import OUTER, moved_counts
from tests.things import HUGE, bound_nets, fixed_lags, fixed_net, fixed_rows, let_lags, odd_things, small_net

SUM = ("sum", 1)
FORM = ("form",)


def pipe():
    """An in, two gates and an out behind each other, with registers between."""
    return Net([("in", 0), SUM, SUM, ("out", 0)], [(0, 1, (1, 2)), (1, 2, (3,)), (2, 3, (4, 5))])


def fault_by_hand(net, lags, told):
    """The fault of a list of steps, as the document says it."""
    now = [0] * len(net.gates)
    for k, (gate, way) in enumerate(told):
        now[gate] += way
        if min(moved_counts(net, now), default=0) < 0:
            return ("let", k)
    return None if now == lags else ("end",)


class Steps(unittest.TestCase):
    def check(self, net, lags):
        told = steps(net, lags)
        self.assertIs(type(told), list)
        for step in told:
            self.assertEqual((type(step), [type(part) for part in step]), (tuple, [int, int]))
            self.assertIn(step[1], (1, -1))
            self.assertNotIn(net.gates[step[0]][0], OUTER)
        self.assertEqual(len(told), sum(map(abs, lags)))
        self.assertIsNone(fault_by_hand(net, lags, told))
        self.assertIsNone(steps_fault(net, lags, told))
        return told

    def test_of_no_lags_the_empty_list(self):
        for net in (pipe(), small_net(), Net([SUM], []), Net([("in", 0)], [])):
            self.assertEqual(steps(net, [0] * len(net.gates)), [])
            self.assertIsNone(steps_fault(net, [0] * len(net.gates), []))

    def test_by_hand(self):
        self.assertEqual(self.check(pipe(), [0, 1, 0, 0]), [(1, 1)])
        self.assertEqual(self.check(pipe(), [0, -2, 0, 0]), [(1, -1)] * 2)
        self.assertIn(self.check(pipe(), [0, 2, 1, 0]), ([(1, 1), (2, 1), (1, 1)], [(2, 1), (1, 1), (1, 1)]))

    def test_only_one_order_is_let(self):
        bare = Net([("in", 0), SUM, SUM, SUM, ("out", 0)], [(0, 1, ()), (1, 2, ()), (2, 3, ()), (3, 4, (1, 2))])
        self.assertEqual(self.check(bare, [0, 1, 1, 1, 0]), [(3, 1), (2, 1), (1, 1)])
        self.assertEqual(self.check(bare, [0, 0, 1, 1, 0]), [(3, 1), (2, 1)])
        self.check(bare, [0, 2, 2, 2, 0])
        back = Net([("in", 0), SUM, SUM, SUM, ("out", 0)], [(0, 1, (1, 2)), (1, 2, ()), (2, 3, ()), (3, 4, ())])
        self.assertEqual(self.check(back, [0, -1, -1, -1, 0]), [(1, -1), (2, -1), (3, -1)])
        self.check(back, [0, -2, -2, -2, 0])
        other = Net([("out", 0), SUM, SUM, SUM, ("in", 0)], [(4, 3, (1,)), (3, 2, ()), (2, 1, ()), (1, 0, ())])
        self.assertEqual(self.check(other, [0, -1, -1, -1, 0]), [(3, -1), (2, -1), (1, -1)])

    def test_above_and_below_at_once(self):
        net = Net([SUM, SUM, SUM], [(0, 1, (1,)), (1, 2, ()), (2, 0, ())])
        for lags in ([1, 1, 1], [-1, -1, -1], [5, 5, 6], [0, 0, 1], [-1, -2, -1], [0, -1, 0], [3, 2, 3], [-7, -7, -6]):
            if min(moved_counts(net, lags)) >= 0:
                self.check(net, lags)
        self.check(Net([SUM, SUM], [(0, 1, ())]), [-3, 4])
        self.check(Net([SUM, SUM], [(0, 1, ())]), [-4, -3])
        self.check(Net([SUM, SUM], [(0, 1, ())]), [3, 4])

    def test_round_a_ring_with_one_register(self):
        for many in (2, 3, 7, 12):
            for full in range(many):
                net = Net([SUM] * many, [(k, (k + 1) % many, (5,) if k == full else ()) for k in range(many)])
                for lag in (1, -1, 4, -4):
                    self.check(net, [lag] * many)

    def test_from_a_gate_to_itself(self):
        self.check(Net([SUM], [(0, 0, (1,))]), [5])
        self.check(Net([SUM], [(0, 0, (1,))]), [-5])

    def test_lags_of_500(self):
        self.check(Net([SUM, SUM], []), [500, -500])
        self.check(Net([SUM, SUM], [(0, 1, ())]), [-500, 500])
        self.check(Net([SUM, SUM, SUM], [(0, 1, ()), (1, 2, ()), (2, 0, (1,))]), [500, 500, 500])
        self.check(Net([SUM, SUM, SUM], [(0, 1, ()), (1, 2, ()), (2, 0, (1,))]), [-500, -500, -500])

    def test_all_kinds_of_nets(self):
        above = below = both = 0
        for seed in range(200):
            net = fixed_net(seed, 3 + seed % 8, 6 + seed % 12, 1 + seed % 4)
            lags = let_lags(seed, net, 10 + seed % 80)
            self.check(net, lags)
            above, below = above + (max(lags) > 1), below + (min(lags) < -1)
            both += max(lags) > 0 and min(lags) < 0
        self.assertGreater(min(above, below, both), 30)

    def test_to_the_lags_of_the_least_beat(self):
        for seed in range(60):
            net = fixed_net(seed, 3 + seed % 8, 6 + seed % 12, 1 + seed % 2)
            self.check(net, least_beat(net)[1])

    def test_moved_step_by_step_is_moved_at_once(self):
        for seed in range(60):
            net = fixed_net(seed, 3 + seed % 6, 6 + seed % 9, 1 + seed % 4)
            lags = let_lags(seed, net, 20)
            now, rows, outs = net, [], []
            for gate, way in steps(net, lags):
                step = [way if k == gate else 0 for k in range(len(lags))]
                here = fixed_rows(seed + len(rows), net, 1)
                now, told = moved(now, step, here)
                rows, outs = rows + here, outs + told
            self.assertEqual((now, outs), moved(net, lags, rows))


class Fault(unittest.TestCase):
    def test_form(self):
        net, lags = pipe(), [0, 1, 0, 0]
        for thing in odd_things() + ["", "steps", 0, 1, HUGE, (), ((1, 1),), (1, 1), {1: 1}, pipe()]:
            self.assertEqual(steps_fault(net, lags, thing), FORM)
        for step in odd_things() + ["", "ab", 0, 1, HUGE, (), (1,), (1, 1, 1), [1, 1], [], "11", ((1, 1),), ([], 1)]:
            for thing in ([step], [(1, 1), step], [step, (1, 1)]):
                self.assertEqual(steps_fault(net, lags, thing), FORM)
        for gate in odd_things() + [-1, 4, 5, HUGE, -HUGE, "", "1", [], [1], (), (1,), 0, 3]:
            self.assertEqual(steps_fault(net, lags, [(gate, 1)]), FORM)
            self.assertEqual(steps_fault(net, lags, [(1, 1), (gate, -1)]), FORM)
        for way in odd_things() + [0, 2, -2, HUGE, -HUGE, "", "1", "-1", [], [1], (), (1,)]:
            self.assertEqual(steps_fault(net, lags, [(1, way)]), FORM)
            self.assertEqual(steps_fault(net, lags, [(1, 1), (2, way)]), FORM)

    def test_form_goes_ahead_of_let(self):
        self.assertEqual(steps_fault(pipe(), [0, 0, 0, 0], [(1, 1), (1, 1), None]), FORM)
        self.assertEqual(steps_fault(pipe(), [0, 0, 0, 0], [(1, 1), (1, 1), (0, 1)]), FORM)

    def test_let_with_the_first_place(self):
        for thing, k in (([(1, 1), (1, 1)], 1), ([(1, 1), (1, 1), (1, -1)], 1), ([(1, -1)] * 3, 2), ([(2, 1)] * 3, 2),
                         ([(2, -1), (2, -1)], 1), ([(1, 1), (1, 1), (2, 1)], 1), ([(1, -1)] * 9, 2),
                         ([(2, 1), (1, 1), (1, 1), (1, 1)], 3), ([(1, 1), (1, -1), (2, -1), (1, 1)], 3)):
            for lags in ([0, 0, 0, 0], [0, 1, 0, 0], [0, 2, 1, 0]):
                self.assertEqual(steps_fault(pipe(), lags, thing), ("let", k))

    def test_let_goes_ahead_of_end_also_where_the_end_is_let(self):
        self.assertEqual(steps_fault(pipe(), [0, 2, 1, 0], [(1, 1), (1, 1), (2, 1)]), ("let", 1))
        self.assertIsNone(steps_fault(pipe(), [0, 2, 1, 0], [(1, 1), (2, 1), (1, 1)]))
        self.assertIsNone(steps_fault(pipe(), [0, 2, 1, 0], [(2, 1), (1, 1), (1, 1)]))

    def test_end(self):
        for lags, thing in (([0, 1, 0, 0], []), ([0, 0, 0, 0], [(1, 1)]), ([0, 1, 0, 0], [(2, 1)]),
                            ([0, 1, 0, 0], [(1, -1)]), ([0, 2, 1, 0], [(2, 1), (1, 1)]),
                            ([0, 1, 1, 0], [(2, 1), (1, 1), (1, 1)]), ([0, -1, 0, 0], [(1, -1), (2, -1)])):
            self.assertEqual(steps_fault(pipe(), lags, thing), ("end",))

    def test_none_also_of_ways_there_and_back(self):
        for lags, thing in (([0, 0, 0, 0], [(1, 1), (1, -1)]), ([0, 1, 0, 0], [(2, 1), (1, 1), (2, -1)]),
                            ([0, 0, 0, 0], [(1, -1), (1, -1), (1, 1), (1, 1)])):
            self.assertIsNone(steps_fault(pipe(), lags, thing))

    def test_kinds(self):
        fault = steps_fault(pipe(), [0, 0, 0, 0], [(1, 1), (1, 1)])
        self.assertEqual((type(fault), type(fault[0]), type(fault[1])), (tuple, str, int))

    def test_against_the_slow_way(self):
        seen = {}
        for seed in range(300):
            net = fixed_net(seed, 3 + seed % 4, 5 + seed % 5, 1 + seed % 4)
            lags = let_lags(seed, net, 10)
            told = steps(net, lags)
            if told and seed % 3 == 1:
                told = told[seed % len(told):] + told[:seed % len(told)]
            elif told and seed % 3 == 2:
                told = told[::-1][seed % 2:]
            fault = fault_by_hand(net, lags, told)
            self.assertEqual(steps_fault(net, lags, told), fault)
            seen[fault and fault[0]] = seen.get(fault and fault[0], 0) + 1
        self.assertGreater(min(seen.get(kind, 0) for kind in (None, "let", "end")), 5)


class Refused(unittest.TestCase):
    THINGS = [None, [], [(1, 1)], [(1, 1), (1, 1)], "", [None], ((1, 1),)]

    def refused(self, error, net, lags):
        told = []
        for ask in [steps] + [lambda net, lags, thing=thing: steps_fault(net, lags, thing) for thing in self.THINGS]:
            with self.assertRaises(error) as caught:
                ask(net, lags)
            self.assertIsInstance(caught.exception, LagError)
            told.append(caught.exception)
        return told

    def test_no_lags_first(self):
        for lags in odd_things() + [[], [0, 0, 0], [0, 501, 0, 0], [0, 0, True, 0], [1, 0, 0, 0], (0, 0, 0, 0), "0000",
                                    [0, -9, 0, 1], [0, "1", 0, 0], {}, "", [0, 9, -501, 0]]:
            self.refused(NoLags, pipe(), lags)

    def test_then_not_let_with_the_first_wire(self):
        for lags, wire in (([0, -3, 0, 0], 0), ([0, 2, 0, 0], 1), ([0, 0, 3, 0], 2), ([0, -3, 3, 0], 0),
                           ([0, 5, 3, 0], 1), ([0, 500, 500, 0], 2), ([0, -500, -500, 0], 0)):
            for refusal in self.refused(NotLet, pipe(), lags):
                self.assertEqual(refusal.wire, wire)
        for seed in range(40):
            net = fixed_net(seed)
            lags = fixed_lags(seed, net, 2)
            bad = [k for k, many in enumerate(moved_counts(net, lags)) if many < 0]
            for refusal in self.refused(NotLet, net, lags) if bad else []:
                self.assertEqual(refusal.wire, bad[0])


class Untouched(unittest.TestCase):
    def test_all_stands_as_ahead_and_the_same_is_told(self):
        for seed in range(20):
            net = fixed_net(seed)
            lags = let_lags(seed, net)
            ahead = list(lags)
            told = steps(net, lags)
            things = [told, told[::-1], told[1:], [None], [(0, 1)], None]
            kept = copy.deepcopy(things)
            faults = [steps_fault(net, lags, thing) for thing in things]
            self.assertEqual((net, lags, things), (fixed_net(seed), ahead, kept))
            self.assertEqual((steps(net, lags), [steps_fault(net, lags, thing) for thing in things]), (told, faults))

    def test_told_lists_are_the_askers_own(self):
        net, lags = pipe(), [0, 2, 1, 0]
        expected = list(steps(net, lags))
        steps(net, lags).clear()
        steps(net, [0, 0, 0, 0]).append((1, 1))
        self.assertEqual((steps(net, lags), steps(net, [0, 0, 0, 0])), (expected, []))


class Bounds(unittest.TestCase):
    def test_greatest_nets_in_a_short_time(self):
        for at, net in enumerate(bound_nets()):
            lags = let_lags(at, net, 400)
            began = time.monotonic()
            told = steps(net, lags)
            self.assertIsNone(steps_fault(net, lags, told))
            self.assertLess(time.monotonic() - began, 2)
            self.assertEqual(len(told), sum(map(abs, lags)))

    def test_as_many_steps_as_can_be(self):
        for way in (1, -1):
            for start in range(0, 12, 5):
                net = Net([SUM] * 12, [(k % 12, (k + 1) % 12, (5,) if k % 12 == start else ()) for k in range(30)])
                lags = [500 * way] * 12
                began = time.monotonic()
                told = steps(net, lags)
                self.assertIsNone(steps_fault(net, lags, told))
                self.assertLess(time.monotonic() - began, 5)
                self.assertEqual(len(told), 6000)


class Interface(unittest.TestCase):
    def test_names_and_arguments(self):
        for function, names in ((steps, ["net", "lags"]), (steps_fault, ["net", "lags", "thing"])):
            self.assertEqual(function.__module__, "lagshift.steps")
            self.assertEqual(getattr(module, function.__name__), function)
            self.assertEqual(list(inspect.signature(function).parameters), names)

    def test_by_name_and_in_another_order(self):
        self.assertEqual(steps(lags=[0, 1, 0, 0], net=pipe()), [(1, 1)])
        self.assertIsNone(steps_fault(thing=[(1, 1)], lags=[0, 1, 0, 0], net=pipe()))
        self.assertEqual(steps_fault(pipe(), thing=[], lags=[0, 1, 0, 0]), ("end",))


if __name__ == "__main__":
    unittest.main()
