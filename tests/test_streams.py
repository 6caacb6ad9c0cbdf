"""Streams: [21], [22], with [2] and [3]."""

import inspect
import time
import unittest

from lagshift import streams as module
from lagshift.bars import least_beat
from lagshift.beats import run
from lagshift.errors import LagError, NoStreams
from lagshift.nets import Net
from lagshift.rings import loads, rings
from lagshift.streams import parted, slowed, woven
from tests.things import (HUGE, bound_nets, by_turns, few_registers, fixed_net, fixed_rows, like, odd_things,
                          small_net)

NO_K = odd_things() + [0, -1, 5, 6, -4, HUGE, -HUGE, "", "1", "2", [], [1], (), (1,)]


def family(seed, many):
    """So many nets that can be woven."""
    net = fixed_net(seed, 3 + seed % 8, 6 + seed % 12, 1 + seed % 3)
    return [net] + [like(net, seed + k) for k in range(1, many)]


class Woven(unittest.TestCase):
    def test_by_hand(self):
        gates = [("in", 0), ("sum", 3), ("out", 0)]
        first = Net(gates, [(0, 1, (1, 2)), (1, 1, (5,)), (1, 2, ())])
        second = Net(gates, [(0, 1, (3, 4)), (1, 1, (6,)), (1, 2, ())])
        third = Net(gates, [(0, 1, (70, 80)), (1, 1, (7,)), (1, 2, ())])
        self.assertEqual(woven([first]), first)
        self.assertEqual(woven([first, second]), Net(gates, [(0, 1, (1, 3, 2, 4)), (1, 1, (5, 6)), (1, 2, ())]))
        self.assertEqual(woven([second, first]), Net(gates, [(0, 1, (3, 1, 4, 2)), (1, 1, (6, 5)), (1, 2, ())]))
        self.assertEqual(woven([first, second, third]),
                         Net(gates, [(0, 1, (1, 3, 70, 2, 4, 80)), (1, 1, (5, 6, 7)), (1, 2, ())]))
        self.assertEqual(woven([third, first, second, first]),
                         Net(gates, [(0, 1, (70, 1, 3, 1, 80, 2, 4, 2)), (1, 1, (7, 5, 6, 5)), (1, 2, ())]))

    def test_without_wires(self):
        self.assertEqual(woven([Net([("sum", 1)], [])] * 4), Net([("sum", 1)], []))

    def test_registers_by_turns(self):
        for seed in range(60):
            nets = family(seed, 1 + seed % 4)
            told = woven(nets)
            self.assertIs(type(told), Net)
            self.assertEqual(told.gates, nets[0].gates)
            for place, (start, end, held) in enumerate(told.wires):
                self.assertEqual((start, end), nets[0].wires[place][:2])
                self.assertEqual(list(held), by_turns([net.wires[place][2] for net in nets]))

    def test_run_with_rows_by_turns_tells_outs_by_turns(self):
        for seed in range(80):
            many = 1 + seed % 4
            nets = family(seed, many)
            rows = [fixed_rows(seed * 9 + k, net, 7) for k, net in enumerate(nets)]
            behind, outs = run(woven(nets), by_turns(rows))
            alone = [run(net, own) for net, own in zip(nets, rows)]
            self.assertEqual(outs, by_turns([told for net, told in alone]))
            self.assertEqual(behind, woven([net for net, told in alone]))


class Parted(unittest.TestCase):
    def test_by_hand(self):
        gates = [("in", 0), ("sum", 3), ("out", 0)]
        net = Net(gates, [(0, 1, (1, 2, 3, 4)), (1, 1, (5, 6)), (1, 2, ())])
        self.assertEqual(parted(net, 1), [net])
        self.assertEqual(parted(net, 2), [Net(gates, [(0, 1, (1, 3)), (1, 1, (5,)), (1, 2, ())]),
                                          Net(gates, [(0, 1, (2, 4)), (1, 1, (6,)), (1, 2, ())])])
        net = Net(gates, [(0, 1, (1, 2, 3, 4, 5, 6)), (1, 2, (7, 8, 9))])
        self.assertEqual(parted(net, 3), [Net(gates, [(0, 1, (1, 4)), (1, 2, (7,))]),
                                          Net(gates, [(0, 1, (2, 5)), (1, 2, (8,))]),
                                          Net(gates, [(0, 1, (3, 6)), (1, 2, (9,))])])

    def test_tells_the_nets_of_which_it_is_woven(self):
        for seed in range(80):
            nets = family(seed, 1 + seed % 4)
            told = parted(woven(nets), len(nets))
            self.assertEqual((type(told), told), (list, nets))

    def test_woven_again_it_is_the_net(self):
        for k in (1, 2, 3, 4):
            for seed in range(20):
                net = slowed(fixed_net(seed), k)
                net = like(net, seed)
                self.assertEqual(woven(parted(net, k)), net)

    def test_without_wires(self):
        self.assertEqual(parted(Net([("sum", 1)], []), 3), [Net([("sum", 1)], [])] * 3)

    def test_registers_that_are_no_k_times_a_number(self):
        gates = [("sum", 3)] * 2
        for many in range(13):
            for k in (1, 2, 3, 4):
                for wires in ([(0, 1, (1,) * many)], [(0, 1, (5,) * 12), (0, 1, (1,) * many)],
                              [(0, 1, (1,) * many), (0, 1, (5,) * 12), (0, 1, ())]):
                    net = Net(gates, wires)
                    if many % k == 0:
                        self.assertEqual(woven(parted(net, k)), net)
                    else:
                        with self.assertRaises(NoStreams):
                            parted(net, k)

    def test_in_all_as_many_is_not_enough(self):
        with self.assertRaises(NoStreams):
            parted(Net([("sum", 1)], [(0, 0, (1,)), (0, 0, (1,))]), 2)
        with self.assertRaises(NoStreams):
            parted(Net([("sum", 1)], [(0, 0, (1, 2, 3, 4)), (0, 0, (1, 2))]), 4)


class Slowed(unittest.TestCase):
    def test_is_woven_of_k_times_the_net(self):
        for seed in range(20):
            net = fixed_net(seed)
            for k in (1, 2, 3, 4):
                self.assertEqual(slowed(net, k), woven([net] * k))
                self.assertEqual(parted(slowed(net, k), k), [net] * k)

    def test_by_hand(self):
        net = Net([("sum", 3)] * 2, [(0, 1, (1, 2)), (1, 0, ())])
        self.assertEqual(slowed(net, 1), net)
        self.assertEqual(slowed(net, 2).wires, [(0, 1, (1, 1, 2, 2)), (1, 0, ())])
        self.assertEqual(slowed(net, 3).wires, [(0, 1, (1, 1, 1, 2, 2, 2)), (1, 0, ())])
        self.assertEqual(slowed(net, 4).wires, [(0, 1, (1, 1, 1, 1, 2, 2, 2, 2)), (1, 0, ())])

    def test_its_rings_have_k_times_the_registers(self):
        faster = 0
        for seed in range(40):
            net = few_registers(seed, 6, 10)
            for k in (1, 2, 3, 4):
                slow = slowed(net, k)
                self.assertEqual(rings(slow), rings(net))
                self.assertEqual(loads(slow), [(wait, k * many) for wait, many in loads(net)])
                self.assertLessEqual(least_beat(slow)[0], least_beat(net)[0])
                faster += least_beat(slow)[0] < least_beat(net)[0]
        self.assertGreater(faster, 10)


class Refused(unittest.TestCase):
    def refused(self, nets):
        with self.assertRaises(NoStreams) as caught:
            woven(nets)
        self.assertIsInstance(caught.exception, LagError)

    def test_no_list(self):
        net = small_net()
        for thing in odd_things() + ["", "net", 0, 1, HUGE, (), (net,), (net, net), {0: net}, {"a": 1}, net]:
            self.refused(thing)

    def test_too_few_and_too_many(self):
        self.refused([])
        for many in (5, 6, 40):
            self.refused([small_net()] * many)
        self.assertEqual(woven([small_net()] * 4), slowed(small_net(), 4))

    def test_things_that_are_no_nets(self):
        net = small_net()
        for thing in odd_things() + ["", "net", 0, 1, HUGE, (), (net,), [net], [], net.gates, (net.gates, net.wires),
                                     Net]:
            self.refused([thing])
            self.refused([net, thing])
            self.refused([thing, net])
            self.refused([net, net, thing, net])

    def test_nets_of_other_forms(self):
        gates, wires = small_net().gates, small_net().wires
        for other in (Net([("in", 0), ("sum", 4), ("out", 0)], wires), Net([("in", 0), ("most", 3), ("out", 0)], wires),
                      Net(gates + [("sum", 1)], wires), Net(gates, wires + [(0, 1, ())]),
                      Net(gates, [wires[1], wires[0], wires[2]]), Net(gates, wires[:1] + wires[2:]),
                      Net(gates, [(0, 1, ()), (0, 1, (5,)), (1, 2, ())]),
                      Net(gates, [(0, 1, (1,)), (1, 1, (5,)), (1, 2, ())]),
                      Net(gates, [(0, 1, ()), (1, 1, (5, 6)), (1, 2, ())]),
                      Net(gates, [(0, 1, ()), (1, 1, (5,)), (1, 2, (0,))])):
            net = small_net()
            for nets in ([net, other], [other, net], [net, net, other], [net, other, net], [net, net, net, other]):
                self.refused(nets)
            self.assertEqual(woven([other, other]), slowed(other, 2))

    def test_as_many_registers_on_each_not_in_all(self):
        gates = [("in", 0), ("sum", 3), ("out", 0)]
        self.refused([Net(gates, [(0, 1, (1,)), (1, 2, ())]), Net(gates, [(0, 1, ()), (1, 2, (1,))])])

    def test_no_k(self):
        for k in NO_K:
            for net in (small_net(), Net([("sum", 1)], []), slowed(small_net(), 4)):
                with self.assertRaises(NoStreams):
                    parted(net, k)
                with self.assertRaises(NoStreams):
                    slowed(net, k)

    def test_what_was_refused_stands_as_ahead(self):
        net = small_net()
        nets = [net, None]
        self.refused(nets)
        self.assertEqual((nets, net), ([small_net(), None], small_net()))


class Untouched(unittest.TestCase):
    def test_nets_stand_as_ahead_and_the_same_is_told(self):
        for seed in range(20):
            nets = family(seed, 1 + seed % 4)
            ahead = list(nets)
            told = woven(nets)
            self.assertEqual((woven(nets), nets), (told, ahead))
            self.assertEqual(nets, family(seed, 1 + seed % 4))
            self.assertEqual(parted(told, len(nets)), parted(told, len(nets)))
            self.assertEqual(told, woven(nets))

    def test_told_nets_have_lists_of_their_own(self):
        for ask in (lambda net: woven([net]), lambda net: woven([net, net]), lambda net: parted(net, 1)[0],
                    lambda net: slowed(net, 1), lambda net: slowed(net, 3)):
            net = small_net()
            expected, told = ask(net), ask(net)
            told.gates.clear()
            told.wires.clear()
            self.assertEqual((net, ask(net)), (small_net(), expected))
            net.gates.clear()
            net.wires.clear()
            self.assertEqual(expected, ask(small_net()))

    def test_parted_nets_are_not_one_another(self):
        net = slowed(small_net(), 3)
        told = parted(net, 3)
        told[0].gates.clear()
        told[0].wires.clear()
        self.assertEqual(told[1:], [small_net()] * 2)
        told.clear()
        self.assertEqual(parted(net, 3), [small_net()] * 3)


class Bounds(unittest.TestCase):
    def test_greatest_nets_in_a_short_time(self):
        for net in bound_nets():
            nets = [like(net, k) for k in range(4)]
            began = time.monotonic()
            told, slow = woven(nets), slowed(net, 4)
            self.assertEqual((parted(told, 4), parted(slow, 4)), (nets, [net] * 4))
            rows = [fixed_rows(k, net, 25) for k in range(4)]
            outs = run(told, by_turns(rows))[1]
            self.assertLess(time.monotonic() - began, 3)
            self.assertEqual(outs, by_turns([run(one, own)[1] for one, own in zip(nets, rows)]))


class Interface(unittest.TestCase):
    def test_names_and_arguments(self):
        for function, names in ((woven, ["nets"]), (parted, ["net", "k"]), (slowed, ["net", "k"])):
            self.assertEqual(function.__module__, "lagshift.streams")
            self.assertEqual(getattr(module, function.__name__), function)
            self.assertEqual(list(inspect.signature(function).parameters), names)

    def test_by_name_and_in_another_order(self):
        net = small_net()
        self.assertEqual(woven(nets=[net]), net)
        self.assertEqual(parted(k=1, net=net), [net])
        self.assertEqual(slowed(k=2, net=net), woven([net, net]))


if __name__ == "__main__":
    unittest.main()
