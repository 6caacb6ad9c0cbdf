"""Waits: [11], [12], with [2]."""

import inspect
import time
import unittest

from lagshift import waits as module
from lagshift.errors import LagError, NoBeat, NoLags
from lagshift.nets import Net
from lagshift.waits import beat_of, between, longest, with_lags
from tests.slow import beat_by, between_by_hand, held, is_way, moved_counts, wait_on
from tests.things import (HUGE, bound_nets, few_registers, fixed_lags, fixed_net, greatest_net, many_ways, no_beats,
                          small_net)



def chain(*waits):
    """Sums with these waits behind each other, without registers."""
    return Net([("sum", wait) for wait in waits], [(k, k + 1, ()) for k in range(len(waits) - 1)])


class BeatOf(unittest.TestCase):
    def test_without_wires(self):
        self.assertEqual(beat_of(Net([("sum", 7)], [])), 7)
        self.assertEqual(beat_of(Net([("sum", 7), ("one", 100), ("most", 3)], [])), 100)
        self.assertEqual(beat_of(Net([("sum", 0)], [])), 0)
        self.assertEqual(beat_of(Net([("in", 0)], [])), 0)

    def test_both_ends_count(self):
        self.assertEqual(beat_of(chain(3, 4)), 7)
        self.assertEqual(beat_of(chain(3, 0, 100, 4)), 107)
        self.assertEqual(beat_of(chain(0, 0, 0)), 0)
        self.assertEqual(beat_of(chain(*[100] * 12)), 1200)

    def test_registers_part_ways(self):
        gates = [("sum", 3), ("sum", 4), ("sum", 5)]
        self.assertEqual(beat_of(Net(gates, [(0, 1, (1,)), (1, 2, ())])), 9)
        self.assertEqual(beat_of(Net(gates, [(0, 1, ()), (1, 2, (0,))])), 7)
        self.assertEqual(beat_of(Net(gates, [(0, 1, (0,)), (1, 2, (0,))])), 5)
        self.assertEqual(beat_of(Net(gates, [(0, 1, (0,)), (1, 2, (0,)), (0, 2, ())])), 8)
        self.assertEqual(beat_of(Net(gates, [(2, 1, ()), (1, 0, ())])), 12)

    def test_rings_and_wires_to_the_same_gate(self):
        self.assertEqual(beat_of(small_net()), 3)
        self.assertEqual(beat_of(Net([("sum", 6)], [(0, 0, (1,)), (0, 0, (1,))])), 6)
        self.assertEqual(beat_of(Net([("sum", 6), ("sum", 8)], [(0, 1, ()), (1, 0, (1,)), (0, 1, (2,))])), 14)

    def test_the_longer_way_of_two(self):
        gates = [("sum", 1), ("sum", 9), ("sum", 2), ("sum", 1)]
        wires = [(0, 2, ()), (2, 3, ()), (0, 1, ()), (1, 3, ())]
        self.assertEqual(beat_of(Net(gates, wires)), 11)
        self.assertEqual(beat_of(Net(gates, wires[::-1])), 11)

    def test_many_ways_by_hand(self):
        self.assertEqual(beat_of(many_ways(())), 1000)
        self.assertEqual(beat_of(many_ways((4,))), 100)

    def test_against_all_ways(self):
        for seed in range(100):
            net = fixed_net(seed, 3 + seed % 8, 8 + seed % 9, 1 + seed % 3)
            self.assertEqual(beat_of(net), beat_by(net, held(net)))

    def test_waits_at_their_edges(self):
        for seed in range(30):
            net = few_registers(seed, 7, 12)
            gates = [(kind, 0 if kind in ("in", "out") else 100 * ((seed + k) % 2))
                     for k, (kind, wait) in enumerate(net.gates)]
            edge = Net(gates, net.wires)
            self.assertEqual(beat_of(edge), beat_by(edge, held(edge)))


class Longest(unittest.TestCase):
    def check(self, net):
        told = longest(net)
        self.assertEqual((type(told), len(told)), (tuple, 2))
        gate, wires = told
        self.assertEqual((type(gate), type(wires), {type(place) for place in wires} - {int}), (int, list, set()))
        self.assertTrue(0 <= gate < len(net.gates))
        self.assertTrue(is_way(net, gate, wires))
        self.assertEqual([len(net.wires[place][2]) for place in wires], [0] * len(wires))
        self.assertEqual(wait_on(net, gate, wires), beat_by(net, held(net)))

    def test_by_hand(self):
        self.assertEqual(longest(chain(3, 4, 5)), (0, [0, 1]))
        self.assertEqual(longest(Net([("sum", 3), ("sum", 9)], [(0, 1, (1,))])), (1, []))
        gates = [("sum", 1), ("sum", 9), ("sum", 2), ("sum", 1)]
        self.assertEqual(longest(Net(gates, [(0, 2, ()), (2, 3, ()), (0, 1, ()), (1, 3, ())])), (0, [2, 3]))
        self.assertEqual(longest(Net([("sum", 7), ("sum", 8)], [])), (1, []))

    def test_without_wires_and_without_waits(self):
        for net in (Net([("sum", 7)], []), Net([("in", 0)], []), chain(0, 0, 0), small_net()):
            self.check(net)

    def test_is_such_a_way(self):
        for seed in range(100):
            self.check(fixed_net(seed, 3 + seed % 8, 8 + seed % 9, 1 + seed % 3))

    def test_as_long_as_beat_of(self):
        for net in bound_nets():
            gate, wires = longest(net)
            self.assertTrue(is_way(net, gate, wires))
            self.assertEqual(sum(len(net.wires[place][2]) for place in wires), 0)
            self.assertEqual(wait_on(net, gate, wires), beat_of(net))


class WithLags(unittest.TestCase):
    NET = Net([("in", 0), ("sum", 3), ("sum", 4), ("out", 0)], [(0, 1, (1,)), (1, 2, ()), (2, 3, (1,))])

    def test_at_the_beat_below_and_above(self):
        for lags, beat in (([0, 0, 0, 0], 7), ([0, -1, 0, 0], 4), ([0, 0, 1, 0], 4), ([0, 1, 1, 0], 7),
                           ([0, -1, -1, 0], 7)):
            for asked, told in ((beat, True), (beat + 1, True), (HUGE, True), (beat - 1, False), (0, False)):
                self.assertIs(with_lags(self.NET, lags, asked), told, (lags, asked))

    def test_lags_that_are_not_let(self):
        for lags in ([0, -2, 0, 0], [0, 1, 0, 0], [0, 0, 2, 0], [0, 500, -500, 0]):
            for beat in (0, 3, 4, 7, 1000, HUGE):
                self.assertIs(with_lags(self.NET, lags, beat), False)

    def test_the_lags_counts_not_the_nets(self):
        ring = Net([("sum", 5), ("sum", 6)], [(0, 1, ()), (1, 0, (1, 2))])
        self.assertIs(with_lags(ring, [0, 0], 10), False)
        self.assertIs(with_lags(ring, [0, 1], 10), True)
        self.assertIs(with_lags(ring, [0, 1], 6), True)
        self.assertIs(with_lags(ring, [0, 1], 5), False)
        self.assertIs(with_lags(ring, [0, 2], 10), False)
        self.assertIs(with_lags(ring, [0, 2], 11), True)

    def test_no_waits(self):
        self.assertIs(with_lags(chain(0, 0), [0, 0], 0), True)
        self.assertIs(with_lags(chain(0, 0), [0, -1], 0), False)
        self.assertIs(with_lags(Net([("sum", 1)], []), [-500], 0), False)
        self.assertIs(with_lags(Net([("sum", 1)], []), [500], 1), True)

    def test_of_no_lags_is_beat_of(self):
        for seed in range(40):
            net = fixed_net(seed, most=2)
            none = [0] * len(net.gates)
            self.assertIs(with_lags(net, none, beat_of(net)), True)
            if beat_of(net) > 0:
                self.assertIs(with_lags(net, none, beat_of(net) - 1), False)

    def test_against_all_ways(self):
        let = 0
        for seed in range(300):
            net = few_registers(seed)
            lags = fixed_lags(seed, net, 1)
            many = moved_counts(net, lags)
            if min(many) < 0:
                self.assertIs(with_lags(net, lags, HUGE), False)
            else:
                let += any(lags)
                beat = beat_by(net, many)
                self.assertIs(with_lags(net, lags, beat), True)
                self.assertIs(with_lags(net, lags, max(0, beat - 1)), beat == 0)
        self.assertGreater(let, 10)

    def test_no_beat(self):
        for beat in no_beats():
            for lags in ([0, 0, 0, 0], [0, 0, 2, 0]):
                with self.assertRaises(NoBeat):
                    with_lags(self.NET, lags, beat)

    def test_no_lags_goes_ahead_of_no_beat(self):
        for beat in no_beats() + [0, 7]:
            for lags in (None, [], [0, 0, 0], [0, 501, 0, 0], [1, 0, 0, 0], (0, 0, 0, 0), [0, True, 0, 0]):
                with self.assertRaises(NoLags):
                    with_lags(self.NET, lags, beat)

    def test_is_a_lag_error(self):
        with self.assertRaises(LagError):
            with_lags(self.NET, [0, 0, 0, 0], -1)


class Between(unittest.TestCase):
    def test_each_gate_to_itself_by_none(self):
        self.assertEqual(between(Net([("sum", 7)], [])), [(0, 0, 0, 7)])
        self.assertEqual(between(Net([("sum", 7)], [(0, 0, (1,)), (0, 0, (1, 2))])), [(0, 0, 0, 7)])
        self.assertEqual(between(Net([("in", 0), ("sum", 100)], [])), [(0, 0, 0, 0), (1, 1, 0, 100)])

    def test_by_hand(self):
        self.assertEqual(between(small_net()), [(0, 0, 0, 0), (0, 1, 0, 3), (0, 2, 0, 3), (1, 1, 0, 3), (1, 2, 0, 3),
                                                (2, 2, 0, 0)])
        ring = Net([("sum", 5), ("sum", 6)], [(0, 1, ()), (1, 0, (1, 2))])
        self.assertEqual(between(ring), [(0, 0, 0, 5), (0, 1, 0, 11), (1, 0, 2, 11), (1, 1, 0, 6)])

    def test_fewest_registers_go_ahead_of_the_greatest_wait(self):
        gates = [("sum", 1), ("sum", 100), ("sum", 2), ("sum", 3)]
        wires = [(0, 1, (1,)), (1, 3, ()), (0, 2, ()), (2, 3, ())]
        self.assertIn((0, 3, 0, 6), between(Net(gates, wires)))
        self.assertIn((0, 3, 0, 6), between(Net(gates, wires[::-1])))

    def test_of_so_few_the_greatest_wait(self):
        gates = [("sum", 1), ("sum", 100), ("sum", 2), ("sum", 3)]
        wires = [(0, 1, (1,)), (1, 3, ()), (0, 2, ()), (2, 3, (1,)), (0, 3, (1,)), (0, 3, (1, 2))]
        for turn in range(6):
            told = between(Net(gates, wires[turn:] + wires[:turn]))
            self.assertEqual([row for row in told if row[:2] == (0, 3)], [(0, 3, 1, 104)])

    def test_several_wires_between_the_same_gates(self):
        wires = [(0, 1, (1, 2, 3)), (0, 1, (1,)), (0, 1, (1, 2))]
        for turn in range(3):
            told = between(Net([("sum", 4), ("sum", 5)], wires[turn:] + wires[:turn]))
            self.assertEqual(told, [(0, 0, 0, 4), (0, 1, 1, 9), (1, 1, 0, 5)])

    def test_a_wire_of_very_many_registers(self):
        net = Net([("sum", 4), ("sum", 5), ("sum", 6)], [(0, 1, (1,) * 101), (0, 2, (1,) * 60), (2, 1, (1,) * 39)])
        self.assertEqual(between(net), [(0, 0, 0, 4), (0, 1, 99, 15), (0, 2, 60, 10), (1, 1, 0, 5), (2, 1, 39, 11),
                                        (2, 2, 0, 6)])
        self.assertIn((0, 1, 200, 9), between(Net([("sum", 4), ("sum", 5)], [(0, 1, (1,) * 200)])))

    def test_a_long_way_with_few_registers(self):
        gates = [("sum", 100)] * 12
        wires = [(0, 11, (1,))] + [(k, k + 1, ()) for k in range(11)]
        self.assertIn((0, 11, 0, 1200), between(Net(gates, wires)))
        backwards = [(k, k + 1, ()) for k in range(10, -1, -1)] + [(0, 11, ())]
        self.assertIn((0, 11, 0, 1200), between(Net(gates, backwards)))

    def test_no_way_no_tuple(self):
        told = between(Net([("sum", 1), ("sum", 2), ("sum", 3)], [(2, 0, (1,))]))
        self.assertEqual([row[:2] for row in told], [(0, 0), (1, 1), (2, 0), (2, 2)])

    def test_against_all_ways(self):
        for seed in range(100):
            net = fixed_net(seed, 3 + seed % 5, 8 + seed % 7, 1 + seed % 3)
            told = between(net)
            self.assertEqual(told, between_by_hand(net))
            self.assertEqual(told, sorted(told))

    def test_kinds(self):
        told = between(greatest_net())
        self.assertIs(type(told), list)
        for row in told:
            self.assertEqual((type(row), [type(part) for part in row]), (tuple, [int] * 4))


class Untouched(unittest.TestCase):
    def ask(self, net, lags):
        return beat_of(net), longest(net), with_lags(net, lags, 50), between(net)

    def test_net_and_lags_stand_as_ahead(self):
        for seed in range(10):
            net = few_registers(seed)
            lags = fixed_lags(seed, net, 1)
            told = self.ask(net, lags)
            self.assertEqual((net, lags), (few_registers(seed), fixed_lags(seed, net, 1)))
            self.assertEqual(self.ask(net, lags), told)

    def test_told_lists_are_the_askers_own(self):
        net = chain(3, 4, 5)
        expected = self.ask(net, [0, 0, 0])
        longest(net)[1].append(7)
        between(net).clear()
        self.assertEqual(net, chain(3, 4, 5))
        self.assertEqual(self.ask(net, [0, 0, 0]), expected)


class Bounds(unittest.TestCase):
    def test_greatest_nets_in_a_short_time(self):
        for net in bound_nets():
            began = time.monotonic()
            beat = beat_of(net)
            longest(net)
            self.assertIs(with_lags(net, [0] * len(net.gates), beat), True)
            told = between(net)
            self.assertLess(time.monotonic() - began, 2)
            self.assertEqual(max(row[3] for row in told if row[2] == 0), beat)


class Interface(unittest.TestCase):
    def test_names_and_arguments(self):
        for function, names in ((beat_of, ["net"]), (longest, ["net"]), (with_lags, ["net", "lags", "beat"]),
                                (between, ["net"])):
            self.assertEqual(function.__module__, "lagshift.waits")
            self.assertEqual(getattr(module, function.__name__), function)
            self.assertEqual(list(inspect.signature(function).parameters), names)

    def test_by_name_and_in_another_order(self):
        net = chain(3, 4)
        self.assertEqual(beat_of(net=net), 7)
        self.assertEqual(longest(net=net), (0, [0]))
        self.assertIs(with_lags(beat=7, lags=[0, 0], net=net), True)
        self.assertIs(with_lags(net, beat=6, lags=[0, 0]), False)
        self.assertEqual(between(net=net), [(0, 0, 0, 3), (0, 1, 0, 7), (1, 1, 0, 4)])


if __name__ == "__main__":
    unittest.main()
