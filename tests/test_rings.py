"""Rings: [16], with [2] and [3]."""

import inspect
import time
import unittest
from fractions import Fraction

from lagshift import rings as module
from lagshift.bars import least_beat
from lagshift.nets import Net
from lagshift.rings import loads, rings, slowest
from tests.slow import held_on, rings_by_hand
from tests.things import bound_nets, few_registers, fixed_net, greatest_net, many_rings, many_ways, small_net

SUM = ("sum", 1)


class Rings(unittest.TestCase):
    def test_none(self):
        for net in (Net([SUM], []), Net([("in", 0), ("out", 0)], [(0, 1, (1,))]),
                    Net([SUM] * 3, [(0, 1, ()), (1, 2, ()), (0, 2, (1,))])):
            self.assertEqual((rings(net), loads(net), slowest(net)), ([], [], None))
            self.assertIs(type(rings(net)), list)
            self.assertIs(type(loads(net)), list)

    def test_of_one_gate(self):
        self.assertEqual(rings(small_net()), [[1]])
        self.assertEqual(rings(Net([SUM], [(0, 0, (1,)), (0, 0, (1, 2)), (0, 0, (1,))])), [[0], [1], [2]])

    def test_of_several_gates_begun_with_the_least_place(self):
        wires = [(0, 1, ()), (1, 2, ()), (2, 0, (1,))]
        self.assertEqual(rings(Net([SUM] * 3, wires)), [[0, 1, 2]])
        self.assertEqual(rings(Net([SUM] * 3, wires[1:] + wires[:1])), [[0, 1, 2]])
        self.assertEqual(rings(Net([SUM] * 3, wires[::-1])), [[0, 2, 1]])
        self.assertEqual(rings(Net([SUM] * 3, [(2, 0, (1,)), (0, 0, (1,)), (1, 2, ()), (0, 1, ())])), [[0, 3, 2], [1]])

    def test_several_wires_between_the_same_gates(self):
        net = Net([SUM, SUM], [(0, 1, ()), (1, 0, (1,)), (0, 1, (2,)), (1, 0, (3,))])
        self.assertEqual(rings(net), [[0, 1], [0, 3], [1, 2], [2, 3]])

    def test_sorted(self):
        net = Net([SUM] * 3, [(1, 0, (1,)), (2, 1, (1,)), (0, 2, (1,)), (0, 1, (1,)), (1, 2, (1,)), (2, 0, (1,)),
                              (2, 2, (1,))])
        self.assertEqual(rings(net), [[0, 2, 1], [0, 3], [1, 4], [2, 5], [3, 4, 5], [6]])

    def test_each_gate_once_at_most(self):
        eight = Net([SUM] * 3, [(0, 1, (1,)), (1, 0, (1,)), (1, 2, (1,)), (2, 1, (1,))])
        self.assertEqual(rings(eight), [[0, 1], [2, 3]])
        with_itself = Net([SUM] * 2, [(0, 1, (1,)), (1, 1, (1,)), (1, 0, (1,)), (0, 0, (1,))])
        self.assertEqual(rings(with_itself), [[0, 2], [1], [3]])

    def test_rings_without_a_gate_in_common(self):
        net = Net([SUM] * 5, [(0, 1, (1,)), (2, 3, (1,)), (1, 0, (1,)), (3, 2, (1,)), (1, 2, ()), (3, 4, ())])
        self.assertEqual(rings(net), [[0, 2], [1, 3]])

    def test_all_gates_with_one_another(self):
        for many, there in ((2, 1), (3, 5), (4, 20), (5, 84)):
            wires = [(k, j, (1,)) for k in range(many) for j in range(many) if k != j]
            told = rings(Net([SUM] * many, wires))
            self.assertEqual(len(told), there)
            self.assertEqual(told, rings_by_hand(Net([SUM] * many, wires)))

    def test_against_all_rows_of_gates(self):
        seen = 0
        for seed in range(80):
            net = fixed_net(seed, 3 + seed % 4, 6 + seed % 9, 1 + seed % 3)
            told = rings(net)
            self.assertEqual(told, rings_by_hand(net))
            self.assertEqual(told, sorted(told))
            seen += any(len(ring) > 2 for ring in told)
        self.assertGreater(seen, 10)

    def test_each_begins_with_its_least_place(self):
        for net in bound_nets():
            for ring in rings(net):
                self.assertEqual(ring[0], min(ring))
                self.assertEqual([type(place) for place in ring], [int] * len(ring))


class Loads(unittest.TestCase):
    def test_by_hand(self):
        self.assertEqual(loads(small_net()), [(3, 1)])
        gates = [("sum", 5), ("sum", 60), ("sum", 100)]
        net = Net(gates, [(0, 1, ()), (1, 0, (1, 2)), (1, 2, ()), (2, 0, (4,)), (0, 1, (5,)), (2, 2, (1, 1, 1))])
        self.assertEqual(rings(net), [[0, 1], [0, 2, 3], [1, 4], [2, 3, 4], [5]])
        self.assertEqual(loads(net), [(65, 2), (165, 1), (65, 3), (165, 2), (100, 3)])

    def test_each_gate_once(self):
        self.assertEqual(loads(Net([("sum", 9)], [(0, 0, (1,) * 200)])), [(9, 200)])
        self.assertEqual(loads(Net([("sum", 0)], [(0, 0, (1,))])), [(0, 1)])

    def test_against_the_slow_way(self):
        for seed in range(40):
            net = fixed_net(seed, 3 + seed % 4, 6 + seed % 9, 1 + seed % 3)
            slow = [(sum(net.gates[net.wires[place][1]][1] for place in ring), held_on(net, ring))
                    for ring in rings_by_hand(net)]
            self.assertEqual(loads(net), slow)

    def test_kinds(self):
        for load in loads(greatest_net()):
            self.assertEqual((type(load), [type(part) for part in load]), (tuple, [int, int]))


class Slowest(unittest.TestCase):
    def check(self, net):
        there, told = rings_by_hand(net), slowest(net)
        if not there:
            self.assertIsNone(told)
            return
        self.assertIs(type(told), list)
        speeds = [Fraction(sum(net.gates[net.wires[place][1]][1] for place in ring), held_on(net, ring))
                  for ring in there]
        self.assertEqual(speeds[there.index(told)], max(speeds))

    def test_by_hand(self):
        gates = [("sum", 10), ("sum", 20), ("sum", 31)]
        wires = [(0, 0, (1,)), (1, 1, (1, 2)), (2, 2, (1, 2, 3))]
        self.assertIn(slowest(Net(gates, wires)), [[2]])
        self.assertIn(slowest(Net(gates[:2] + [("sum", 29)], wires)), [[0], [1]])
        self.assertEqual(slowest(Net([("sum", 11)] + gates[1:], wires)), [0])
        self.assertEqual(slowest(Net([("sum", 10), ("sum", 21), ("sum", 31)], wires)), [1])

    def test_the_greatest_wait_alone_is_not_slowest(self):
        self.assertEqual(slowest(Net([("sum", 100), ("sum", 51)], [(0, 0, (1, 2)), (1, 1, (1,))])), [1])
        self.assertEqual(slowest(Net([("sum", 100), ("sum", 1)], [(0, 0, (1, 2)), (1, 1, (1,))])), [0])

    def test_nearly_as_slow(self):
        held = (1,) * 100
        net = Net([("sum", 99), ("sum", 98)], [(0, 0, held), (1, 1, held[:99])])
        self.assertEqual(slowest(net), [0])
        net = Net([("sum", 97), ("sum", 98)], [(0, 0, held[:98]), (1, 1, held[:99])])
        self.assertEqual(slowest(net), [1])

    def test_without_waits(self):
        self.assertEqual(slowest(Net([("sum", 0)], [(0, 0, (1,))])), [0])
        self.assertEqual(slowest(Net([("sum", 0), ("sum", 1)], [(0, 0, (1,)), (1, 1, (1,) * 90)])), [1])

    def test_against_the_slow_way(self):
        for seed in range(80):
            self.check(fixed_net(seed, 3 + seed % 4, 6 + seed % 9, 1 + seed % 3))
        self.check(small_net())
        self.check(Net([SUM], []))

    def test_is_one_of_rings(self):
        for net in bound_nets():
            told = slowest(net)
            self.assertTrue(told in rings(net) if rings(net) else told is None)

    def test_bounds_the_least_beat(self):
        for seed in range(60):
            net = few_registers(seed, 6, 10)
            for (wait, registers), ring in zip(loads(net), rings(net)):
                self.assertGreaterEqual(least_beat(net)[0] * registers, wait)


class Untouched(unittest.TestCase):
    def test_the_net_stands_as_ahead_and_the_same_is_told(self):
        for seed in range(10):
            net = few_registers(seed, 6, 10)
            told = (rings(net), loads(net), slowest(net))
            self.assertEqual(net, few_registers(seed, 6, 10))
            self.assertEqual((rings(net), loads(net), slowest(net)), told)

    def test_told_lists_are_the_askers_own(self):
        net = Net([SUM, SUM], [(0, 1, ()), (1, 0, (1,)), (0, 1, (2,)), (1, 0, (3,))])
        ahead = Net(net.gates, net.wires)
        for ring in rings(net):
            ring.append(9)
        rings(net).clear()
        loads(net).clear()
        slowest(net).clear()
        self.assertEqual(net, ahead)
        self.assertEqual(rings(net), [[0, 1], [0, 3], [1, 2], [2, 3]])
        self.assertEqual(loads(net), [(2, 1), (2, 1), (2, 2), (2, 2)])
        self.assertIn(slowest(net), [[0, 1], [0, 3]])

    def test_rings_are_lists_of_their_own(self):
        told = rings(greatest_net())
        self.assertEqual(len({id(ring) for ring in told}), len(told))


class Bounds(unittest.TestCase):
    def test_greatest_nets_in_a_short_time(self):
        for net in bound_nets():
            began = time.monotonic()
            told, held, slow = rings(net), loads(net), slowest(net)
            self.assertLess(time.monotonic() - began, 3)
            self.assertEqual(len(told), len(held))
            if told:
                best = max(Fraction(wait, registers) for wait, registers in held)
                self.assertEqual(Fraction(*held[told.index(slow)]), best)

    def test_by_hand(self):
        self.assertEqual(len(rings(greatest_net())), 4 * 4 * 3 * 3 + 3 * 3 * 3 * 3)
        self.assertEqual(len(rings(many_rings())), 4 * 3 * 3 * 3 * 2 * 2)
        self.assertEqual(rings(many_ways(())), [])

    def test_very_many_ways_that_lead_nowhere(self):
        gates = [SUM] * 12
        ends = [(0, 1), (1, 0)] + [(1 + k % 10, 2 + k % 10) for k in range(28)]
        began = time.monotonic()
        self.assertEqual(rings(Net(gates, [(start, end, (1,)) for start, end in ends])), [[0, 1]])
        self.assertLess(time.monotonic() - began, 1)


class Interface(unittest.TestCase):
    def test_names_and_arguments(self):
        for function in (rings, loads, slowest):
            self.assertEqual(function.__module__, "lagshift.rings")
            self.assertEqual(getattr(module, function.__name__), function)
            self.assertEqual(list(inspect.signature(function).parameters), ["net"])

    def test_by_name(self):
        net = small_net()
        self.assertEqual((rings(net=net), loads(net=net), slowest(net=net)), ([[1]], [(3, 1)], [1]))


if __name__ == "__main__":
    unittest.main()
