"""Lags: [9], [10], with [2]."""

import inspect
import time
import unittest

from lagshift import lags as module
from lagshift.errors import LagError, NoLags, NotLet
from lagshift.lags import are_let, counts, registers
from lagshift.moves import moved
from lagshift.nets import Net
from lagshift.shares import shared
from lagshift.steps import steps, steps_fault
from lagshift.waits import with_lags
from tests.slow import OUTER, held_on, gates_on, moved_counts, once_ways, rings_by_hand
from tests.things import HUGE, bound_nets, few_registers, fixed_lags, fixed_net, greatest_net, odd_things, small_net

SUM = ("sum", 1)
ANY_TAKERS = [counts, are_let, lambda net, lags: with_lags(net, lags, 5)]
LET_TAKERS = [lambda net, lags: moved(net, lags, []), steps, lambda net, lags: steps_fault(net, lags, None), shared]
TAKERS = ANY_TAKERS + LET_TAKERS
NO_LAG = odd_things() + [501, -501, 502, 1000, HUGE, -HUGE, "", "0", "1", [], [0], (), (0,)]


class Counts(unittest.TestCase):
    def test_by_hand(self):
        net = Net([("in", 0), SUM, SUM, ("out", 0)], [(0, 1, ()), (1, 2, (5, 6)), (2, 3, (7,)), (0, 2, (1, 2, 3))])
        self.assertEqual(counts(net, [0, 0, 0, 0]), [0, 2, 1, 3])
        self.assertEqual(counts(net, [0, 1, 0, 0]), [1, 1, 1, 3])
        self.assertEqual(counts(net, [0, -1, 0, 0]), [-1, 3, 1, 3])
        self.assertEqual(counts(net, [0, 0, 1, 0]), [0, 3, 0, 4])
        self.assertEqual(counts(net, [0, 2, 5, 0]), [2, 5, -4, 8])
        self.assertEqual(counts(net, [0, -3, -3, 0]), [-3, 2, 4, 0])

    def test_a_lag_of_one_moves_from_the_wires_out_to_those_in(self):
        net = Net([SUM] * 4, [(0, 2, (1,)), (1, 2, ()), (2, 3, (1, 1)), (2, 0, (1,)), (0, 3, (1,) * 4)])
        self.assertEqual(counts(net, [0, 0, 1, 0]), [2, 1, 1, 0, 4])
        self.assertEqual(counts(net, [0, 0, -1, 0]), [0, -1, 3, 2, 4])

    def test_from_a_gate_to_itself(self):
        net = Net([SUM, SUM], [(0, 0, (1, 2, 3)), (1, 1, (4,)), (0, 1, ())])
        for lag in (-500, -7, 0, 1, 500):
            self.assertEqual(counts(net, [lag, 0]), [3, 1, -lag])
            self.assertEqual(counts(net, [lag, lag]), [3, 1, 0])

    def test_several_wires_between_the_same_gates(self):
        net = Net([SUM, SUM], [(0, 1, ()), (0, 1, (1, 2)), (1, 0, (3,)), (0, 1, ())])
        self.assertEqual(counts(net, [0, 1]), [1, 3, 0, 1])
        self.assertEqual(counts(net, [1, 0]), [-1, 1, 2, -1])

    def test_no_wires(self):
        self.assertEqual(counts(Net([SUM], []), [3]), [])
        self.assertIs(are_let(Net([SUM, ("in", 0)], []), [-500, 0]), True)

    def test_at_the_edges(self):
        net = Net([SUM, SUM], [(0, 1, (1,) * 200)])
        self.assertEqual(counts(net, [-500, 500]), [1200])
        self.assertEqual(counts(net, [500, -500]), [-800])

    def test_against_the_slow_way(self):
        for seed in range(60):
            net = fixed_net(seed, 3 + seed % 10, 10 + seed % 21)
            for most in (0, 1, 4, 500):
                lags = fixed_lags(seed, net, most)
                self.assertEqual(counts(net, lags), moved_counts(net, lags))

    def test_kind(self):
        told = counts(small_net(), [0, 0, 0])
        self.assertIs(type(told), list)
        self.assertEqual([type(many) for many in told], [int] * 3)


class AreLet(unittest.TestCase):
    def test_by_hand(self):
        net = Net([("in", 0), SUM, SUM, ("out", 0)], [(0, 1, ()), (1, 2, (5, 6)), (2, 3, (7,))])
        for lags, let in (([0, 0, 0, 0], True), ([0, 1, 0, 0], True), ([0, 2, 0, 0], True), ([0, 3, 0, 0], False),
                          ([0, 3, 1, 0], True), ([0, 4, 1, 0], False), ([0, 0, 2, 0], False), ([0, -1, 0, 0], False),
                          ([0, 0, -2, 0], True), ([0, 0, -3, 0], False)):
            self.assertIs(are_let(net, lags), let)

    def test_is_a_truth(self):
        for seed in range(60):
            net = fixed_net(seed)
            lags = fixed_lags(seed, net, 1 + seed % 3)
            self.assertIs(are_let(net, lags), all(many >= 0 for many in moved_counts(net, lags)))

    def test_each_wire_counts(self):
        wires = [(0, 1, (1,)), (0, 2, (1,)), (0, 3, (1,))]
        for bad in range(3):
            lags = [0, 0, 0, 0]
            lags[bad + 1] = -2
            self.assertIs(are_let(Net([SUM] * 4, wires), lags), False)
            lags[bad + 1] = -1
            self.assertIs(are_let(Net([SUM] * 4, wires), lags), True)

    def test_all_alike_are_let(self):
        net = Net([SUM] * 3, [(0, 1, ()), (1, 2, ()), (2, 0, (1,))])
        for lag in (-500, -1, 0, 1, 500):
            self.assertIs(are_let(net, [lag] * 3), True)


class Registers(unittest.TestCase):
    def test_by_hand(self):
        self.assertEqual(registers(small_net()), 1)
        self.assertEqual(registers(greatest_net()), 200)
        self.assertEqual(registers(Net([SUM], [])), 0)
        self.assertEqual(registers(Net([SUM, SUM], [(0, 1, ()), (0, 1, ())])), 0)
        self.assertEqual(registers(Net([SUM, SUM], [(0, 0, (0, 0)), (0, 1, (0,)), (0, 1, (9, 9, 9))])), 6)

    def test_is_what_counts_of_no_lags_sum_up_to(self):
        for seed in range(20):
            net = fixed_net(seed)
            self.assertEqual(registers(net), sum(counts(net, [0] * len(net.gates))))


class Kept(unittest.TestCase):
    def test_each_ring_keeps_its_registers(self):
        for seed in range(30):
            net = few_registers(seed, 6, 12)
            for most in (1, 3, 500):
                many = counts(net, fixed_lags(seed, net, most))
                for ring in rings_by_hand(net):
                    self.assertEqual(sum(many[place] for place in ring), held_on(net, ring))

    def test_each_way_between_ins_and_outs_keeps_its_registers(self):
        seen = 0
        for seed in range(30):
            net = few_registers(seed, 6, 9)
            many = counts(net, fixed_lags(seed, net, 20))
            for gate, wires in once_ways(net):
                on = gates_on(net, gate, wires)
                if net.gates[gate][0] in OUTER and net.gates[on[-1]][0] in OUTER:
                    self.assertEqual(sum(many[place] for place in wires), held_on(net, wires))
                    seen += len(wires) > 1
        self.assertGreater(seen, 20)


class Refused(unittest.TestCase):
    def no_lags(self, net, lags):
        for taker in TAKERS:
            with self.assertRaises(NoLags):
                taker(net, lags)

    def test_no_list(self):
        for thing in odd_things() + ["", "000", 0, 1, HUGE, (0, 0, 0), (), {0: 0, 1: 0, 2: 0}, {0, 1, 2}]:
            self.no_lags(small_net(), thing)

    def test_too_many_and_too_few(self):
        for lags in ([], [0], [0, 0], [0, 0, 0, 0], [[0, 0, 0]], [0] * 6):
            self.no_lags(small_net(), lags)
        self.no_lags(Net([SUM], []), [])
        self.no_lags(Net([SUM], []), [0, 0])

    def test_no_lag(self):
        for thing in NO_LAG:
            self.no_lags(small_net(), [0, thing, 0])
            self.no_lags(small_net(), [thing, 0, 0])
            self.no_lags(small_net(), [0, 0, thing])
            self.no_lags(Net([SUM, SUM], []), [0, thing])
            self.no_lags(Net([SUM, SUM], []), [thing, 0])

    def test_edges(self):
        net = Net([SUM, ("one", 0)], [])
        for lag in (-500, -499, 499, 500):
            for lags in ([lag, 0], [0, lag], [lag, lag]):
                for taker in ANY_TAKERS:
                    self.assertIn(taker(net, lags), ([], True))
        for lag in (-501, 501):
            for lags in ([lag, 0], [0, lag], [lag, lag]):
                self.no_lags(net, lags)

    def test_of_an_in_or_out_just_0(self):
        for lag in (1, -1, 2, 500, -500):
            self.no_lags(small_net(), [lag, 0, 0])
            self.no_lags(small_net(), [0, 0, lag])
            self.no_lags(small_net(), [lag, lag, lag])
        self.no_lags(Net([("in", 0)], []), [1])
        self.assertEqual(counts(Net([("in", 0)], []), [0]), [])

    def test_each_inner_kind_may_have_a_lag(self):
        for kind in ("sum", "times", "most", "least", "first", "one"):
            for wait in (0, 100):
                net = Net([("in", 0), (kind, wait)], [(0, 1, ())])
                self.assertEqual(counts(net, [0, 500]), [500])

    def test_also_where_lags_would_not_be_let(self):
        net = Net([SUM, SUM], [(0, 1, ())])
        self.no_lags(net, [5, -501])
        self.no_lags(net, [5, 0, 0])

    def test_not_let_with_the_first_wire(self):
        net = Net([("in", 0), SUM, SUM, SUM], [(0, 1, (1,)), (1, 2, ()), (2, 3, (1, 2)), (2, 1, (3,)), (3, 3, (4,))])
        for lags, wire in (([0, -2, 0, 0], 0), ([0, 1, 0, 0], 1), ([0, 0, 0, -3], 2), ([0, 0, 2, 0], 3),
                           ([0, 0, 3, 0], 2), ([0, -500, 500, 500], 0), ([0, 500, 499, 0], 1), ([0, -1, -1, -4], 2)):
            for taker in LET_TAKERS:
                with self.assertRaises(NotLet) as caught:
                    taker(net, lags)
                self.assertEqual(caught.exception.wire, wire)

    def test_is_a_lag_error(self):
        for error in (LagError, ValueError):
            with self.assertRaises(error):
                counts(small_net(), None)

    def test_what_was_refused_stands_as_ahead(self):
        net, lags = small_net(), [0, 501, 0]
        self.no_lags(net, lags)
        self.assertEqual((net, lags), (small_net(), [0, 501, 0]))


class Untouched(unittest.TestCase):
    def test_net_and_lags_stand_as_ahead(self):
        for seed in range(10):
            net = fixed_net(seed)
            lags = fixed_lags(seed, net, 3)
            told = (counts(net, lags), are_let(net, lags), registers(net))
            self.assertEqual((net, lags), (fixed_net(seed), fixed_lags(seed, net, 3)))
            self.assertEqual((counts(net, lags), are_let(net, lags), registers(net)), told)

    def test_the_list_told_is_the_askers_own(self):
        net, lags = small_net(), [0, 1, 0]
        counts(net, lags).clear()
        first = counts(net, lags)
        first.append(9)
        self.assertEqual((net, lags, counts(net, lags)), (small_net(), [0, 1, 0], [1, 1, -1]))


class Bounds(unittest.TestCase):
    def test_greatest_nets_in_a_short_time(self):
        for net in bound_nets():
            lags = fixed_lags(3, net, 500)
            began = time.monotonic()
            told = (counts(net, lags), are_let(net, lags), registers(net))
            self.assertLess(time.monotonic() - began, 2)
            many = moved_counts(net, lags)
            self.assertEqual(told, (many, min(many) >= 0, sum(len(wire[2]) for wire in net.wires)))


class Interface(unittest.TestCase):
    def test_names_and_arguments(self):
        for function, names in ((counts, ["net", "lags"]), (are_let, ["net", "lags"]), (registers, ["net"])):
            self.assertEqual(function.__module__, "lagshift.lags")
            self.assertEqual(getattr(module, function.__name__), function)
            self.assertEqual(list(inspect.signature(function).parameters), names)

    def test_by_name_and_in_another_order(self):
        net = small_net()
        self.assertEqual(counts(lags=[0, 1, 0], net=net), counts(net, [0, 1, 0]))
        self.assertIs(are_let(lags=[0, 1, 0], net=net), are_let(net, [0, 1, 0]))
        self.assertEqual(registers(net=net), 1)


if __name__ == "__main__":
    unittest.main()
