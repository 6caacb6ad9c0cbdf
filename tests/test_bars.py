"""Bars: [13], [14], [15], with [2] and [3]."""

import copy
import inspect
import time
import unittest

from lagshift import bars as module
from lagshift.bars import bar_fault, for_beat, least_beat
from lagshift.errors import LagError, NoBeat
from lagshift.lags import are_let
from lagshift.nets import Net
from lagshift.rings import loads
from lagshift.waits import beat_of, with_lags
from tests.slow import OUTER, is_bar, is_for, least_by_hand
from tests.things import (HUGE, bound_nets, few_registers, fixed_net, greatest_net, many_ways, no_beats, odd_things,
                          sample_net, small_net)

FORM = ("form",)


class Form(unittest.TestCase):
    def form(self, thing):
        for beat in (0, 15, 10 ** 6, HUGE):
            self.assertEqual(bar_fault(sample_net(), beat, thing), FORM, thing)

    def test_no_list(self):
        for thing in odd_things() + ["", "bar", 0, 1, HUGE, (), ((1, []),), (1, []), {0: (1, [])}, sample_net()]:
            self.form(thing)

    def test_of_no_pieces(self):
        self.form([])

    def test_no_piece(self):
        for thing in odd_things() + ["", "ab", 0, 1, HUGE, (), (1,), (1, [], []), [1, []], [], [[]], ([], 1), ((), [])]:
            self.form([thing])
            self.form([(2, []), thing])
            self.form([thing, (2, [])])

    def test_no_gate(self):
        for gate in odd_things() + [-1, 7, 8, HUGE, -HUGE, "", "1", [], [1], (), (1,)]:
            self.form([(gate, [])])
            self.form([(gate, [0])])
            self.form([(2, []), (gate, [])])

    def test_gates_at_the_edges(self):
        for gate in (0, 1, 2, 3, 4, 5, 6):
            self.assertEqual(bar_fault(sample_net(), 100, [(gate, [])]), ("sum", 0))

    def test_wires_are_no_list(self):
        for wires in odd_things() + ["", "1", 1, HUGE, (), (1,), {1: 1}, {1}]:
            self.form([(1, wires)])
            self.form([(2, []), (1, wires)])

    def test_no_place(self):
        for place in odd_things() + [-1, -8, 8, 9, HUGE, -HUGE, "", "1", [], [1], (), (1,)]:
            self.form([(1, [place])])
            self.form([(0, [0, place])])
            self.form([(1, [place, 2])])

    def test_a_truth_for_a_place_that_would_do(self):
        self.form([(1, [True])])
        self.form([(0, [False])])
        self.form([(True, [1])])
        self.form([(False, [0])])

    def test_places_at_the_edges(self):
        self.assertNotEqual(bar_fault(sample_net(), 5, [(0, [0])]), FORM)
        self.assertNotEqual(bar_fault(sample_net(), 5, [(1, [7])]), FORM)

    def test_no_way(self):
        for gate, wires in ((0, [1]), (1, [0]), (2, [0]), (0, [0, 2]), (0, [0, 0]), (1, [1, 1]), (0, [0, 1, 2, 3]),
                            (2, [2, 2]), (4, [4, 5, 4]), (1, [1, 0]), (3, [2]), (2, [1])):
            self.form([(gate, wires)])
            self.form([(2, []), (gate, wires)])

    def test_goes_ahead_of_meet_and_sum(self):
        self.form([(1, [1]), (5, []), None])
        self.form([(1, []), (2, [9])])

    def test_a_list_that_holds_itself(self):
        thing = []
        thing.append(thing)
        self.form(thing)
        wires = []
        wires.append(wires)
        self.form([(1, wires)])

    def test_no_wires_at_all(self):
        net = Net([("sum", 3)], [])
        self.assertEqual(bar_fault(net, 2, [(0, [0])]), FORM)
        self.assertEqual(bar_fault(net, 2, [(0, [-1])]), FORM)
        self.assertIsNone(bar_fault(net, 2, [(0, [])]))


class Meet(unittest.TestCase):
    def meet(self, k, thing):
        for beat in (0, 15, HUGE):
            self.assertEqual(bar_fault(sample_net(), beat, thing), ("meet", k), thing)

    def test_of_one_piece(self):
        self.meet(0, [(1, [1])])
        self.meet(0, [(0, [0])])
        self.meet(0, [(2, [2])])
        self.meet(0, [(1, [6, 6, 7])])

    def test_of_several_pieces(self):
        self.meet(0, [(1, [1]), (1, []), (2, [3])])
        self.meet(1, [(1, [1]), (2, []), (1, [])])
        self.meet(2, [(1, [1]), (2, []), (2, [])])
        self.meet(1, [(1, [1]), (2, [])])

    def test_the_first_is_told(self):
        self.meet(0, [(1, [1]), (1, [1]), (1, [1])])
        self.meet(1, [(1, []), (1, [1]), (1, [1]), (5, [])])
        self.meet(0, [(1, []), (2, [])])

    def test_one_outer_gate_is_not_enough(self):
        self.meet(0, [(0, []), (1, [])])
        self.meet(0, [(1, []), (0, [])])
        self.meet(1, [(0, [0]), (1, [])])
        self.meet(1, [(0, []), (0, [0, 1])])

    def test_two_outer_gates(self):
        for gate in (0, 3, 4, 6):
            for other in (0, 3, 4, 6):
                self.assertEqual(bar_fault(sample_net(), 5, [(gate, []), (other, [])]), ("sum", 0))

    def test_goes_ahead_of_sum(self):
        self.assertEqual(bar_fault(sample_net(), 0, [(2, []), (1, [])]), ("meet", 0))
        self.assertEqual(bar_fault(sample_net(), HUGE, [(2, [3]), (2, [3])]), ("meet", 0))


class Sum(unittest.TestCase):
    def check(self, beat, thing, fault):
        self.assertEqual(bar_fault(sample_net(), beat, thing), fault, str(thing)[:200])

    def test_pieces_without_wires(self):
        self.check(20, [(2, [])], ("sum", 0))
        self.check(19, [(2, [])], None)
        self.check(19, [(2, []), (2, []), (2, [])], None)
        self.check(0, [(0, [])], ("sum", 0))
        self.check(9, [(1, [])], None)
        self.check(10, [(1, [])], ("sum", 0))

    def test_long_is_above_the_beat(self):
        for beat, fault in ((29, ("sum", 0)), (30, ("sum", 1)), (31, ("sum", 1)), (HUGE, ("sum", 1))):
            self.check(beat, [(0, [0, 1, 2])], fault)

    def test_both_ends_count_for_the_wait(self):
        self.check(29, [(1, [1]), (2, [3])], ("sum", 0))
        self.check(30, [(1, [1]), (2, [3])], ("sum", 2))
        self.check(30, [(1, [1, 3])], ("sum", 1))
        self.check(39, [(1, [1, 3])], ("sum", 1))
        self.check(40, [(1, [1, 3])], ("sum", 2))

    def test_gates_and_registers_as_often_as_come_by(self):
        self.check(69, [(1, [1, 3, 1, 3])], ("sum", 3))
        self.check(70, [(1, [1, 3, 1, 3])], ("sum", 4))
        self.check(29, [(1, [6, 6])], ("sum", 1))
        self.check(30, [(1, [6, 6])], ("sum", 2))

    def test_by_outer_gates(self):
        self.check(4, [(0, [0, 1, 2]), (4, [4, 5])], ("sum", 0))
        self.check(29, [(0, [0, 1, 2]), (4, [4, 5])], ("sum", 1))
        self.check(30, [(4, [4, 5]), (0, [0, 1, 2])], ("sum", 2))
        self.check(9, [(0, [0]), (1, []), (1, [1]), (2, []), (2, [2]), (4, [4]), (5, [5])], None)

    def test_told_without_fault(self):
        chain = Net([("in", 0), ("sum", 10), ("sum", 10), ("sum", 10), ("out", 0)],
                    [(0, 1, ()), (1, 2, ()), (2, 3, (1,)), (3, 4, ())])
        whole = [(0, [0]), (1, [1]), (2, [2]), (3, [3])]
        self.assertIsNone(bar_fault(chain, 10, whole))
        self.assertIsNone(bar_fault(chain, 19, whole))
        self.assertEqual(bar_fault(chain, 20, whole), ("sum", 1))
        self.assertEqual(bar_fault(chain, 9, [(0, [0, 1, 2, 3])]), ("sum", 0))
        for turn in range(4):
            self.assertIsNone(bar_fault(chain, 10, whole[turn:] + whole[:turn]))

    def test_very_long_pieces(self):
        self.check(10 ** 5 + 10, [(1, [6] * 10000)], ("sum", 10000))
        self.check(10 ** 5 + 9, [(1, [6] * 10000)], ("sum", 9999))
        self.check(10, [(1, [])] * 10000, ("sum", 0))
        self.check(9, [(1, [])] * 10000, None)

    def test_kind_of_a_sum(self):
        fault = bar_fault(sample_net(), 20, [(2, [])])
        self.assertEqual((type(fault), type(fault[0]), type(fault[1])), (tuple, str, int))

    def test_a_ring(self):
        ring = Net([("sum", 5), ("sum", 6)], [(0, 1, ()), (1, 0, (1,))])
        self.assertIsNone(bar_fault(ring, 10, [(0, [0]), (1, [1])]))
        self.assertEqual(bar_fault(ring, 11, [(0, [0]), (1, [1])]), ("sum", 1))


class ForBeat(unittest.TestCase):
    def check(self, net, beat):
        """What kind is told, where it is seen to be right."""
        told = for_beat(net, beat)
        self.assertEqual((type(told), len(told), type(told[1])), (tuple, 2, list))
        self.assertIn(told[0], ("lags", "bar"))
        if told[0] == "lags":
            self.assertTrue(is_for(net, told[1], beat))
            self.assertIs(with_lags(net, told[1], beat), True)
        else:
            self.assertTrue(is_bar(net, beat, told[1]))
            self.assertIsNone(bar_fault(net, beat, told[1]))
        return told[0]

    def test_a_gate_that_waits_longer(self):
        net = Net([("sum", 7)], [(0, 0, (1,))])
        self.assertEqual([self.check(net, beat) for beat in (0, 6, 7, 8)], ["bar", "bar", "lags", "lags"])
        self.assertEqual(self.check(Net([("sum", 7)], []), 6), "bar")

    def test_a_ring(self):
        net = Net([("sum", 5), ("sum", 6)], [(0, 1, ()), (1, 0, (1,))])
        self.assertEqual([self.check(net, beat) for beat in (0, 5, 6, 10, 11)], ["bar"] * 4 + ["lags"])
        net = Net([("sum", 5), ("sum", 6)], [(0, 1, ()), (1, 0, (1, 2))])
        self.assertEqual([self.check(net, beat) for beat in (5, 6, 10, 11)], ["bar"] + ["lags"] * 3)

    def test_from_an_in_to_an_out(self):
        gates = [("in", 0), ("sum", 10), ("sum", 10), ("sum", 10), ("out", 0)]
        ends = [(0, 1), (1, 2), (2, 3), (3, 4)]
        for full in range(4):
            for many, least in ((0, 30), (1, 20), (2, 10), (3, 10), (9, 10)):
                net = Net(gates, [ends[k] + (((1,) * many) if k == full else (),) for k in range(4)])
                for beat in (0, 9, 10, 19, 20, 29, 30, 31):
                    self.assertEqual(self.check(net, beat), "lags" if beat >= least else "bar", (full, many, beat))

    def test_without_an_out_registers_may_come_from_anywhere(self):
        net = Net([("in", 0), ("sum", 10), ("sum", 10), ("sum", 10)], [(0, 1, ()), (1, 2, ()), (2, 3, ())])
        self.assertEqual(self.check(net, 10), "lags")
        net = Net([("sum", 10), ("sum", 10), ("out", 0)], [(0, 1, ()), (1, 2, ())])
        self.assertEqual(self.check(net, 10), "lags")

    def test_bars_between_two_ins_or_two_outs(self):
        gates = [("in", 0), ("out", 0), ("in", 0), ("out", 0), ("sum", 10), ("sum", 10), ("sum", 10)]
        wires = [(0, 4, ()), (4, 5, ()), (5, 3, ()), (2, 6, (1, 2, 3)), (6, 1, (1, 2, 3))]
        net = Net(gates, wires)
        self.assertEqual([self.check(net, beat) for beat in (9, 10, 19, 20)], ["bar", "bar", "bar", "lags"])

    def test_a_beat_of_0(self):
        self.assertEqual(self.check(Net([("in", 0), ("sum", 0), ("out", 0)], [(0, 1, ()), (1, 2, ())]), 0), "lags")
        self.assertEqual(self.check(Net([("sum", 1)], []), 0), "bar")
        self.assertEqual(self.check(Net([("in", 0)], []), 0), "lags")

    def test_a_very_great_beat(self):
        for net in [small_net(), sample_net(), *bound_nets()]:
            for beat in (1200, 10 ** 20, HUGE):
                told = for_beat(net, beat)
                self.assertEqual(told[0], "lags")
                self.assertIs(with_lags(net, told[1], beat), True)

    def test_against_all_lags(self):
        for seed in range(60):
            net = few_registers(seed, 3 + seed % 3, 5 + seed % 3)
            least = least_by_hand(net)
            for beat in {0, 1, max(0, least - 30), max(0, least - 1), least, least + 1, least + 40}:
                self.assertEqual(self.check(net, beat), "lags" if beat >= least else "bar", (seed, beat))

    def test_at_each_beat(self):
        for seed in range(12):
            net = few_registers(seed, 6, 10)
            kinds = [self.check(net, beat) for beat in range(0, beat_of(net) + 2, 3)]
            self.assertEqual(kinds, sorted(kinds))

    def test_greater_nets(self):
        several = 0
        for seed in range(60):
            net = fixed_net(seed, 5 + seed % 8, 10 + seed % 6, 1 + seed % 2)
            beat = least_beat(net)[0]
            self.assertEqual(self.check(net, beat), "lags")
            if beat > 0:
                self.assertEqual(self.check(net, beat - 1), "bar")
                several += len(for_beat(net, beat - 1)[1]) > 1
        self.assertGreater(several, 2)

    def test_never_a_bar_where_lags_are_there(self):
        for seed in range(40):
            net = few_registers(seed, 6, 10)
            beat, lags = least_beat(net)
            bar = for_beat(net, beat - 1)[1] if beat > 0 else [(0, [])]
            self.assertEqual(bar_fault(net, beat, bar)[0], "sum")

    def test_no_beat(self):
        for beat in no_beats():
            with self.assertRaises(NoBeat):
                for_beat(small_net(), beat)
            for thing in [[(1, [])], [], None, [None]]:
                with self.assertRaises(NoBeat):
                    bar_fault(small_net(), beat, thing)
        for error in (LagError, ValueError):
            with self.assertRaises(error):
                for_beat(small_net(), -1)


class LeastBeat(unittest.TestCase):
    def check(self, net):
        told = least_beat(net)
        self.assertEqual((type(told), len(told), type(told[0])), (tuple, 2, int))
        beat, lags = told
        self.assertTrue(is_for(net, lags, beat))
        self.assertLessEqual(beat, beat_of(net))
        self.assertGreaterEqual(beat, max(wait for kind, wait in net.gates))
        if beat > 0:
            kind, bar = for_beat(net, beat - 1)
            self.assertEqual(kind, "bar")
            self.assertTrue(is_bar(net, beat - 1, bar))
        return beat

    def test_by_hand(self):
        self.assertEqual(self.check(Net([("sum", 7)], [])), 7)
        self.assertEqual(self.check(Net([("in", 0)], [])), 0)
        self.assertEqual(self.check(Net([("sum", 0), ("sum", 0)], [(0, 1, ())])), 0)
        self.assertEqual(self.check(small_net()), 3)
        self.assertEqual(self.check(Net([("sum", 5), ("sum", 6)], [(0, 1, ()), (1, 0, (1,))])), 11)
        self.assertEqual(self.check(Net([("sum", 5), ("sum", 6)], [(0, 1, ()), (1, 0, (1, 2))])), 6)
        self.assertEqual(self.check(Net([("sum", 5), ("sum", 6)], [(0, 1, ())])), 6)

    def test_a_ring_of_three(self):
        gates = [("sum", 10), ("sum", 20), ("sum", 30)]
        for full in range(3):
            for many, least in ((1, 60), (2, 30), (3, 30), (50, 30)):
                wires = [(k, (k + 1) % 3, ((1,) * many) if k == full else ()) for k in range(3)]
                self.assertEqual(self.check(Net(gates, wires)), least)

    def test_a_ring_of_four(self):
        gates = [("sum", 10), ("sum", 20), ("sum", 30), ("sum", 40)]
        for many, least in ((1, 100), (2, 50), (3, 40), (4, 40)):
            wires = [(0, 1, (1,) * many), (1, 2, ()), (2, 3, ()), (3, 0, ())]
            self.assertEqual(self.check(Net(gates, wires)), least)

    def test_from_in_to_out_with_as_many_registers_as_wanted(self):
        gates = [("in", 0)] + [("sum", 10 * k) for k in range(1, 6)] + [("out", 0)]
        for many, least in ((0, 150), (1, 90), (2, 60), (3, 50), (4, 50), (150, 50)):
            for full in (0, 3, 5):
                wires = [(k, k + 1, ((1,) * many) if k == full else ()) for k in range(6)]
                self.assertEqual(self.check(Net(gates, wires)), least, (many, full))

    def test_against_all_lags(self):
        lower = 0
        for seed in range(100):
            net = few_registers(seed, 3 + seed % 3, 5 + seed % 4)
            self.assertEqual(self.check(net), least_by_hand(net))
            lower += least_beat(net)[0] < beat_of(net)
        self.assertGreater(lower, 10)

    def test_greater_nets(self):
        for seed in range(60):
            self.check(fixed_net(seed, 5 + seed % 8, 10 + seed % 6, 1 + seed % 2))

    def test_times_a_rings_registers_is_never_below_its_wait(self):
        for seed in range(100):
            net = few_registers(seed, 6, 10)
            for wait, registers in loads(net):
                self.assertGreaterEqual(least_beat(net)[0] * registers, wait)

    def test_lags_of_ins_and_outs_are_0(self):
        for seed in range(40):
            net = few_registers(seed, 7, 12)
            for lags in (least_beat(net)[1], for_beat(net, HUGE)[1]):
                self.assertEqual([lag for (kind, wait), lag in zip(net.gates, lags) if kind in OUTER and lag], [])
                self.assertIs(are_let(net, lags), True)


class Untouched(unittest.TestCase):
    THING = [(1, [1]), (2, [3])]

    def ask(self, net):
        return [bar_fault(net, 29, self.THING), for_beat(net, 29), for_beat(net, 30), for_beat(net, 3), least_beat(net)]

    def test_net_and_thing_stand_as_ahead(self):
        net = sample_net()
        things = [self.THING, [(1, [1, 3]), None], [], [(1, [9])]]
        ahead = copy.deepcopy(things)
        for thing in things:
            bar_fault(net, 15, thing)
        told = self.ask(net)
        self.assertEqual((net, things), (sample_net(), ahead))
        self.assertEqual(self.ask(net), told)

    def test_the_same_question_twice(self):
        for seed in range(10):
            net = few_registers(seed)
            told = (for_beat(net, 20), for_beat(net, 120), least_beat(net))
            self.assertEqual((for_beat(net, 20), for_beat(net, 120), least_beat(net)), told)
            self.assertEqual(net, few_registers(seed))

    def test_told_lists_are_the_askers_own(self):
        net = sample_net()
        expected = copy.deepcopy(self.ask(net))
        least_beat(net)[1].clear()
        for_beat(net, 30)[1].append(5)
        for beat in (3, 29):
            bar = for_beat(net, beat)[1]
            for piece in bar if for_beat(net, beat)[0] == "bar" else []:
                piece[1].append(0)
            bar.clear()
        self.assertEqual(net, sample_net())
        self.assertEqual(self.ask(net), expected)

    def test_pieces_of_a_bar_have_lists_of_their_own(self):
        seen = 0
        for seed in range(60):
            net = fixed_net(seed, 5 + seed % 8, 10 + seed % 6, 1 + seed % 2)
            bar = for_beat(net, max(0, least_beat(net)[0] - 1))[1]
            wires = [piece[1] for piece in bar if isinstance(piece, tuple)]
            self.assertEqual(len({id(one) for one in wires}), len(wires))
            seen += len(wires) > 1
        self.assertGreater(seen, 2)


class Bounds(unittest.TestCase):
    def test_greatest_nets_in_a_short_time(self):
        for net in bound_nets():
            began = time.monotonic()
            beat, lags = least_beat(net)
            self.assertIs(with_lags(net, lags, beat), True)
            kind, bar = for_beat(net, beat - 1)
            self.assertEqual((kind, bar_fault(net, beat - 1, bar)), ("bar", None))
            self.assertLess(time.monotonic() - began, 2)
            self.assertTrue(is_bar(net, beat - 1, bar))

    def test_by_hand(self):
        self.assertEqual(least_beat(greatest_net())[0], 100)
        self.assertEqual(least_beat(many_ways(()))[0], 1000)
        self.assertEqual(least_beat(many_ways((5,)))[0], 100)


class Interface(unittest.TestCase):
    def test_names_and_arguments(self):
        for function, names in ((bar_fault, ["net", "beat", "thing"]), (for_beat, ["net", "beat"]),
                                (least_beat, ["net"])):
            self.assertEqual(function.__module__, "lagshift.bars")
            self.assertEqual(getattr(module, function.__name__), function)
            self.assertEqual(list(inspect.signature(function).parameters), names)

    def test_by_name_and_in_another_order(self):
        net = sample_net()
        self.assertIsNone(bar_fault(thing=[(2, [])], beat=19, net=net))
        self.assertEqual(bar_fault(net, thing=[(2, [])], beat=20), ("sum", 0))
        self.assertEqual(for_beat(beat=30, net=net), for_beat(net, 30))
        self.assertEqual(least_beat(net=net), least_beat(net))


if __name__ == "__main__":
    unittest.main()
