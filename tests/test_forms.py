"""Forms: [27], with [2], [3], [9] and [10]."""

import copy
import inspect
import time
import unittest

from lagshift import forms as module
from lagshift.errors import LagError, NoForm
from lagshift.forms import lags_to, loop_fault
from lagshift.lags import are_let, counts
from lagshift.moves import moved
from lagshift.nets import Net
from lagshift.streams import slowed
from tests.slow import OUTER, all_lags, held, moved_counts
from tests.things import (HUGE, Fixed, bound_nets, few_registers, fixed_net, fixed_rows, let_lags, odd_things,
                          sample_net, small_net, with_registers)

SUM = ("sum", 1)
FORM = ("form",)


def fault_by_hand(net, other, loop):
    """The fault of a list of tuples (wire, way), one at least, as the document says it."""
    ends = []
    for place, way in loop:
        start, end, worths = net.wires[place]
        ends.append((start, end) if way == 1 else (end, start))
    for k, (start, end) in enumerate(ends):
        begin = ends[(k + 1) % len(ends)][0]
        if end != begin and not (net.gates[end][0] in OUTER and net.gates[begin][0] in OUTER):
            return ("meet", k)
    sums = [sum(held(one)[place] * way for place, way in loop) for one in (net, other)]
    return ("sum", sums[0]) if sums[0] == sums[1] else None


def changed(net, seed):
    """A net of the same form with a register more or fewer here and there, or None where a ring would have none."""
    fixed = Fixed(seed + 61)
    many = [max(0, here + fixed.below(3) - 1) if fixed.below(4) == 0 else here for here in held(net)]
    try:
        return with_registers(net, many)
    except LagError:
        return None


class LagsTo(unittest.TestCase):
    def check(self, net, other):
        """What kind is told, where it is seen to be right."""
        told = lags_to(net, other)
        self.assertEqual((type(told), len(told), type(told[1])), (tuple, 2, list))
        if told[0] == "lags":
            self.assertEqual(counts(net, told[1]), held(other))
            self.assertEqual(moved_counts(net, told[1]), held(other))
            self.assertEqual({type(lag) for lag in told[1]}, {int})
            self.assertIs(are_let(net, told[1]), True)
        else:
            self.assertEqual(told[0], "loop")
            for turn in told[1]:
                self.assertEqual((type(turn), [type(part) for part in turn]), (tuple, [int, int]))
                self.assertIn(turn[1], (1, -1))
                self.assertIn(turn[0], range(len(net.wires)))
            self.assertGreater(len(told[1]), 0)
            self.assertIsNone(fault_by_hand(net, other, told[1]))
            self.assertIsNone(loop_fault(net, other, told[1]))
        return told[0]

    def both(self, net, other):
        kind = self.check(net, other)
        self.assertEqual(self.check(other, net), kind)
        return kind

    def test_by_hand(self):
        net = Net([("in", 0), SUM, SUM, ("out", 0)], [(0, 1, (1, 2)), (1, 2, (3,)), (2, 3, ())])
        self.assertEqual(lags_to(net, with_registers(net, [1, 2, 0])), ("lags", [0, -1, 0, 0]))
        self.assertEqual(lags_to(net, with_registers(net, [0, 0, 3])), ("lags", [0, -2, -3, 0]))
        self.assertEqual(lags_to(net, with_registers(net, [3, 0, 0])), ("lags", [0, 1, 0, 0]))
        self.assertEqual(lags_to(net, net), ("lags", [0, 0, 0, 0]))
        for many in ([2, 1, 1], [2, 0, 0], [0, 0, 0], [9, 0, 0], [3, 1, 0]):
            self.assertEqual(self.both(net, with_registers(net, many)), "loop")

    def test_worths_do_not_matter(self):
        net = small_net()
        other = Net(net.gates, [(0, 1, ()), (1, 1, (96,)), (1, 2, ())])
        self.assertEqual(lags_to(net, other), ("lags", [0, 0, 0]))

    def test_a_ring(self):
        net = Net([SUM] * 3, [(0, 1, (1, 2)), (1, 2, ()), (2, 0, ())])
        for many in ([0, 2, 0], [0, 0, 2], [1, 1, 0], [1, 0, 1], [2, 0, 0]):
            self.assertEqual(self.both(net, with_registers(net, many)), "lags")
        for many in ([3, 0, 0], [1, 1, 1], [0, 1, 0], [1, 0, 0], [0, 0, 3], [60, 60, 60]):
            self.assertEqual(self.both(net, with_registers(net, many)), "loop")

    def test_from_a_gate_to_itself(self):
        net = Net([SUM], [(0, 0, (1, 2)), (0, 0, (3,))])
        self.assertEqual(self.both(net, with_registers(net, [2, 1])), "lags")
        for many, place in (([1, 1], 0), ([3, 1], 0), ([2, 2], 1)):
            self.assertEqual(self.both(net, with_registers(net, many)), "loop")
            self.assertEqual({turn[0] for turn in lags_to(net, with_registers(net, many))[1]}, {place})

    def test_two_wires_between_the_same_gates(self):
        net = Net([SUM, SUM], [(0, 1, (1,)), (0, 1, ())])
        self.assertEqual(self.both(net, with_registers(net, [2, 1])), "lags")
        self.assertEqual(self.both(net, with_registers(net, [0, 0])), "loop")
        self.assertEqual(self.both(net, with_registers(net, [2, 2])), "loop")
        self.assertEqual({turn[0] for turn in lags_to(net, with_registers(net, [2, 2]))[1]}, {0, 1})

    def test_by_way_of_ins_and_outs(self):
        net = Net([("in", 0), ("out", 0), ("in", 0), ("out", 0), SUM, SUM],
                  [(0, 4, (1,)), (4, 1, (2,)), (2, 5, ()), (5, 3, (3,))])
        self.assertEqual(self.both(net, with_registers(net, [2, 0, 1, 0])), "lags")
        for many in ([2, 1, 0, 1], [1, 1, 0, 2], [2, 1, 1, 1], [0, 1, 1, 1], [1, 0, 0, 1]):
            self.assertEqual(self.both(net, with_registers(net, many)), "loop")
        straight = Net([("in", 0), ("out", 0)], [(0, 1, (1, 2))])
        self.assertEqual(self.both(straight, with_registers(straight, [2])), "lags")
        self.assertEqual(self.both(straight, with_registers(straight, [3])), "loop")
        two = Net([("in", 0), ("in", 0), SUM], [(0, 2, ()), (1, 2, (1,))])
        self.assertEqual(self.both(two, with_registers(two, [3, 4])), "lags")
        self.assertEqual(self.both(two, with_registers(two, [1, 1])), "loop")
        outs = Net([("out", 0), ("out", 0), SUM], [(2, 0, ()), (2, 1, (1,))])
        self.assertEqual(self.both(outs, with_registers(outs, [3, 4])), "lags")
        self.assertEqual(self.both(outs, with_registers(outs, [1, 1])), "loop")

    def test_without_wires(self):
        self.assertEqual(self.check(Net([SUM, ("in", 0)], []), Net([SUM, ("in", 0)], [])), "lags")

    def test_a_net_made_from_it_by_lags(self):
        for seed in range(150):
            net = fixed_net(seed, 3 + seed % 9, 6 + seed % 15, 1 + seed % 4)
            lags = let_lags(seed, net, 10 + seed % 60)
            self.assertEqual(self.both(net, with_registers(net, moved_counts(net, lags))), "lags")
            other = moved(net, lags, fixed_rows(seed, net, max(0, max(lags))))[0]
            self.assertEqual(self.both(net, other), "lags")

    def test_a_register_more_or_fewer_here_and_there(self):
        seen = {"lags": 0, "loop": 0}
        for seed in range(200):
            net = fixed_net(seed, 3 + seed % 9, 5 + seed % 9, 1 + seed % 4)
            other = changed(net, seed)
            if other is not None:
                seen[self.both(net, other)] += 1
        self.assertGreater(min(seen.values()), 5)

    def test_never_both(self):
        for seed in range(60):
            net = few_registers(seed, 3 + seed % 3, 5 + seed % 3)
            other = changed(net, seed)
            if other is None:
                continue
            found = [lags for lags in all_lags(net, 3) if moved_counts(net, lags) == held(other)]
            kind = self.check(net, other)
            self.assertTrue(kind == "lags" or not found)
            if kind == "loop":
                self.assertEqual(found, [])

    def test_slowed_nets(self):
        self.assertEqual(self.both(small_net(), slowed(small_net(), 2)), "loop")
        way = Net([SUM, SUM, SUM], [(0, 1, (1,)), (1, 2, (2, 3))])
        self.assertEqual(self.both(way, slowed(way, 4)), "lags")

    def test_lags_stay_lags(self):
        pair = Net([SUM, SUM], [(0, 1, ())])
        for lags in ([-500, 100], [-500, 500], [-100, 500], [500, 500], [-500, -500], [0, 500], [-500, 0], [-501, 0]):
            other = with_registers(pair, moved_counts(pair, lags))
            self.assertEqual(self.both(pair, other), "lags", lags)
        far = moved(pair, [-500, 100], [[]] * 100)[0]
        self.assertEqual(len(far.wires[0][2]), 600)
        self.assertEqual(self.both(pair, far), "lags")
        long = Net([SUM] * 12, [(k, k + 1, ()) for k in range(11)])
        self.assertEqual(self.both(long, with_registers(long, [90] * 11)), "lags")
        parts = Net([SUM] * 4 + [("in", 0), ("out", 0)], [(0, 1, ()), (3, 2, ()), (4, 5, (1,))])
        self.assertEqual(self.both(parts, with_registers(parts, [1000, 990, 1])), "lags")
        whole = Net([("in", 0), SUM, ("out", 0)], [(0, 1, (1,) * 500), (1, 2, ())])
        self.assertEqual(self.both(whole, with_registers(whole, [0, 500])), "lags")

    def test_beyond_the_bounds_there_is_no_error(self):
        whole = Net([("in", 0), SUM, ("out", 0)], [(0, 1, (1,) * 700), (1, 2, ())])
        self.assertEqual(lags_to(whole, with_registers(whole, [0, 700])), ("lags", [0, -700, 0]))


class LoopFault(unittest.TestCase):
    """The wires of the sample net: 0 to 1, 1 to 2, 2 to 3, 2 to 1, 4 to 5, 5 to 6, 1 to 1, 1 to 2; outer 0 3 4 6."""

    def test_form(self):
        net = sample_net()
        for thing in odd_things() + ["", "loop", 0, 1, HUGE, (), [], ((0, 1),), (0, 1), {0: 1}, net]:
            self.assertEqual(loop_fault(net, net, thing), FORM)
        for turn in odd_things() + ["", "ab", 0, 1, HUGE, (), (6,), (6, 1, 1), [6, 1], [], "11", ((6, 1),), ([], 1)]:
            for thing in ([turn], [(6, 1), turn], [turn, (6, 1)]):
                self.assertEqual(loop_fault(net, net, thing), FORM)
        for place in odd_things() + [-1, 8, 9, HUGE, -HUGE, "", "6", [], [6], (), (6,)]:
            self.assertEqual(loop_fault(net, net, [(place, 1)]), FORM)
            self.assertEqual(loop_fault(net, net, [(6, 1), (place, -1)]), FORM)
        for way in odd_things() + [0, 2, -2, HUGE, -HUGE, "", "1", "-1", [], [1], (), (1,)]:
            self.assertEqual(loop_fault(net, net, [(6, way)]), FORM)
            self.assertEqual(loop_fault(net, net, [(6, 1), (6, way)]), FORM)

    def test_without_wires(self):
        net = Net([SUM], [])
        for thing in ([], [(0, 1)], None):
            self.assertEqual(loop_fault(net, net, thing), FORM)

    def test_meet_with_the_first_place(self):
        net, other = sample_net(), with_registers(sample_net(), [1, 1, 1, 1, 1, 1, 1, 1])
        for thing, k in (([(0, 1)], 0), ([(1, 1)], 0), ([(1, 1), (1, 1)], 0), ([(1, 1), (2, 1)], 1),
                         ([(1, 1), (3, 1), (0, 1)], 1), ([(6, 1), (6, 1), (0, 1)], 1), ([(6, 1), (0, -1), (1, 1)], 1),
                         ([(1, 1), (3, 1), (1, 1)], 2), ([(1, 1), (3, -1)], 0), ([(2, -1), (0, 1), (1, 1)], 0),
                         ([(0, 1), (1, -1)], 0), ([(4, 1), (5, 1), (1, 1)], 1), ([(5, 1), (4, 1)], None),
                         ([(2, 1), (1, 1)], 0), ([(0, -1), (1, 1)], 0), ([(4, -1), (2, -1), (3, -1)], 1)):
            fault = loop_fault(net, other, thing)
            self.assertEqual(fault, fault_by_hand(net, other, thing), thing)
            if k is not None:
                self.assertEqual(fault, ("meet", k), thing)

    def test_loops_by_hand(self):
        net = sample_net()
        # Registers 0 0 1 2 1 0 1 1.
        for thing, total in (([(6, 1)], 1), ([(6, -1)], -1), ([(1, 1), (3, 1)], 2), ([(3, 1), (1, 1)], 2),
                             ([(3, -1), (1, -1)], -2), ([(1, 1), (7, -1)], -1), ([(7, 1), (1, -1)], 1),
                             ([(0, 1), (1, 1), (2, 1)], 1), ([(2, -1), (1, -1), (0, -1)], -1),
                             ([(4, 1), (5, 1), (0, 1), (7, 1), (2, 1)], 3), ([(4, 1), (5, 1)], 1),
                             ([(4, 1), (4, -1)], 0), ([(1, 1), (3, 1), (6, 1), (6, 1)], 4),
                             ([(0, 1), (6, 1), (0, -1), (4, 1), (5, 1)], 2), ([(0, 1), (0, -1)], 0)):
            self.assertEqual(loop_fault(net, net, thing), ("sum", total), thing)

    def test_a_loop_without_fault(self):
        net = sample_net()
        for many, thing, fault in (([0, 0, 1, 2, 1, 0, 2, 1], [(6, 1)], None),
                                   ([0, 0, 1, 2, 1, 0, 2, 1], [(6, -1)], None),
                                   ([0, 0, 1, 2, 1, 0, 2, 1], [(1, 1), (3, 1)], ("sum", 2)),
                                   ([0, 1, 1, 1, 1, 0, 1, 1], [(1, 1), (3, 1)], ("sum", 2)),
                                   ([0, 1, 1, 2, 1, 0, 1, 1], [(1, 1), (3, 1)], None),
                                   ([0, 0, 1, 1, 1, 0, 1, 1], [(1, 1), (3, 1)], None),
                                   ([0, 1, 1, 1, 1, 0, 1, 1], [(1, 1), (7, -1)], None),
                                   ([0, 0, 1, 2, 0, 0, 1, 1], [(4, 1), (5, 1)], None),
                                   ([0, 0, 1, 2, 0, 1, 1, 1], [(4, 1), (5, 1)], ("sum", 1)),
                                   ([5, 0, 1, 2, 1, 0, 1, 1], [(0, 1), (1, 1), (2, 1)], None),
                                   ([5, 0, 1, 2, 1, 0, 1, 1], [(0, 1), (0, -1)], ("sum", 0))):
            other = with_registers(net, many)
            self.assertEqual(loop_fault(net, other, thing), fault)
            self.assertEqual(loop_fault(net, other, thing), fault_by_hand(net, other, thing))
            self.assertEqual(loop_fault(other, net, thing) is None, fault is None)

    def test_the_wires_of_a_loop_where_lags_lead_tell_the_same_sum(self):
        seen = 0
        for seed in range(200):
            net = fixed_net(seed, 3 + seed % 5, 6 + seed % 6, 1 + seed % 4)
            other = changed(net, seed)
            kind, loop = lags_to(net, other) if other is not None else ("lags", [])
            if kind == "loop":
                lags = let_lags(seed, net)
                near = with_registers(net, moved_counts(net, lags))
                self.assertEqual(loop_fault(net, near, loop), fault_by_hand(net, near, loop))
                self.assertEqual(loop_fault(net, near, loop)[0], "sum")
                for cut in (loop[1:], loop[:-1], loop[::-1], loop + loop, loop + loop[:1]):
                    if cut:
                        self.assertEqual(loop_fault(net, other, cut), fault_by_hand(net, other, cut))
                seen += len(loop) > 1
        self.assertGreater(seen, 20)

    def test_kinds(self):
        for loop in ([(6, 1)], [(0, 1)]):
            fault = loop_fault(sample_net(), sample_net(), loop)
            self.assertEqual((type(fault), type(fault[0]), type(fault[1])), (tuple, str, int))


class Refused(unittest.TestCase):
    def test_no_form_first(self):
        net = small_net()
        gates, wires = net.gates, net.wires
        for other in (Net([("in", 0), ("sum", 4), ("out", 0)], wires), Net([("in", 0), ("most", 3), ("out", 0)], wires),
                      Net(gates + [("sum", 1)], wires), Net(gates, wires + [(0, 1, ())]),
                      Net(gates, [wires[1], wires[0], wires[2]]), Net(gates, wires[:1] + wires[2:]),
                      Net(gates, [(0, 1, ()), (0, 1, (5,)), (1, 2, ())]), sample_net(), Net([SUM], [])):
            for one, two in ((net, other), (other, net)):
                with self.assertRaises(NoForm) as caught:
                    lags_to(one, two)
                self.assertIsInstance(caught.exception, LagError)
                for thing in (None, [], [(0, 1)], [(1, 1)], "", [None], ((1, 1),), [(99, 1)]):
                    with self.assertRaises(NoForm):
                        loop_fault(one, two, thing)

    def test_registers_are_no_part_of_the_form(self):
        other = with_registers(small_net(), [3, 4, 5])
        self.assertEqual(lags_to(small_net(), other)[0], "loop")
        self.assertEqual(loop_fault(small_net(), other, None), FORM)


class Untouched(unittest.TestCase):
    def test_all_stands_as_ahead_and_the_same_is_told(self):
        for seed in range(30):
            net = fixed_net(seed)
            other = changed(net, seed) or net
            kept = Net(other.gates, other.wires)
            things = [[(0, 1)], [(0, 1), (0, -1)], [None], None, lags_to(net, other)[1]]
            ahead = copy.deepcopy(things)
            told = [lags_to(net, other)] + [loop_fault(net, other, thing) for thing in things]
            self.assertEqual([lags_to(net, other)] + [loop_fault(net, other, thing) for thing in things], told)
            self.assertEqual((net, other, things), (fixed_net(seed), kept, ahead))

    def test_told_lists_are_the_askers_own(self):
        net = small_net()
        other = with_registers(net, [0, 2, 0])
        expected = copy.deepcopy((lags_to(net, net), lags_to(net, other)))
        lags_to(net, net)[1].clear()
        lags_to(net, other)[1].clear()
        self.assertEqual((lags_to(net, net), lags_to(net, other)), expected)


class Bounds(unittest.TestCase):
    def test_greatest_nets_in_a_short_time(self):
        for at, net in enumerate(bound_nets()):
            near = with_registers(net, moved_counts(net, let_lags(at, net, 300)))
            many = held(net)
            many[at] += 1
            far = with_registers(net, many)
            began = time.monotonic()
            self.assertEqual(counts(net, lags_to(net, near)[1]), held(near))
            kind, told = lags_to(net, far)
            if kind == "loop":
                self.assertIsNone(loop_fault(net, far, told))
            else:
                self.assertEqual(counts(net, told), many)
            self.assertEqual(loop_fault(net, near, [(0, 1), (0, -1)] * 5000), ("sum", 0))
            self.assertLess(time.monotonic() - began, 2)


class Interface(unittest.TestCase):
    def test_names_and_arguments(self):
        for function, names in ((lags_to, ["net", "other"]), (loop_fault, ["net", "other", "thing"])):
            self.assertEqual(function.__module__, "lagshift.forms")
            self.assertEqual(getattr(module, function.__name__), function)
            self.assertEqual(list(inspect.signature(function).parameters), names)

    def test_by_name_and_in_another_order(self):
        net = Net([("in", 0), SUM, ("out", 0)], [(0, 1, (1,)), (1, 2, ())])
        other = with_registers(net, [0, 1])
        self.assertEqual(lags_to(other=other, net=net), ("lags", [0, -1, 0]))
        self.assertEqual(loop_fault(thing=[(0, 1), (1, 1)], other=other, net=net), ("sum", 1))
        third = with_registers(net, [0, 0])
        self.assertIsNone(loop_fault(net, thing=[(0, 1), (1, 1)], other=third))


if __name__ == "__main__":
    unittest.main()
