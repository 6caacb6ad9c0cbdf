"""Nets: [4], [5], [6], with [2]."""

import inspect
import unittest

from lagshift import nets
from lagshift.errors import LagError, NoGates, NoRing, NoWires
from lagshift.nets import Net
from tests.things import HUGE, INNER, Agreeing, Touchy, fixed_net, greatest_net, odd_things, small_net

KINDS = ("in", "out") + INNER
SUM = ("sum", 1)


class Helpers(unittest.TestCase):
    def no_gates(self, gates, wires=None):
        with self.assertRaises(NoGates):
            Net(gates, [] if wires is None else wires)

    def no_wires(self, place, gates, wires):
        with self.assertRaises(NoWires) as caught:
            Net(gates, wires)
        self.assertEqual(caught.exception.place, place)
        self.assertIs(type(caught.exception.place), int)

    def no_ring(self, gates, wires):
        with self.assertRaises(NoRing) as caught:
            Net(gates, wires)
        ring = caught.exception.ring
        self.check_ring(wires, ring)
        return ring

    def check_ring(self, wires, ring):
        self.assertIs(type(ring), list)
        self.assertGreaterEqual(len(ring), 1)
        for k, place in enumerate(ring):
            self.assertIs(type(place), int)
            self.assertIn(place, range(len(wires)))
            self.assertEqual(wires[place][2], ())
            self.assertEqual(wires[ring[k - 1]][1], wires[place][0])
        starts = [wires[place][0] for place in ring]
        self.assertEqual(len(set(starts)), len(starts))


class Gates(Helpers):
    def test_each_kind_is_let(self):
        wires = {"out": [(0, 1, ())], "first": [(0, 1, ())]}
        for kind in KINDS:
            net = Net([("in", 0), (kind, 0)], wires.get(kind, []))
            self.assertEqual(net.gates, [("in", 0), (kind, 0)])

    def test_edges_of_waits(self):
        for wait in (0, 1, 96, 97, 99, 100):
            for kind in INNER:
                self.assertEqual(Net([(kind, wait)], [(0, 0, (1,))]).gates, [(kind, wait)])
        for wait in (-1, 101, -100, 102, HUGE, -HUGE):
            for kind in KINDS:
                self.no_gates([(kind, wait)], [(0, 0, (1,))])

    def test_in_and_out_have_no_wait(self):
        for wait in (1, 2, 96, 100, -1, True, False, None):
            self.no_gates([("in", wait)])
            self.no_gates([("in", 0), ("out", wait)], [(0, 1, ())])

    def test_a_truth_is_no_wait(self):
        for kind in KINDS:
            self.no_gates([(kind, True)])
            self.no_gates([(kind, False)])

    def test_no_list(self):
        for thing in odd_things() + ["", "in", 0, 1, HUGE, (), (SUM,), (("in", 0),)]:
            self.no_gates(thing)

    def test_empty_list(self):
        self.no_gates([])

    def test_no_gate_at_any_place(self):
        bad = odd_things() + ["in", "", 0, 1, HUGE, [], ["sum", 1], [SUM], (), ("sum",), (1,), ("sum", 1, 0),
                              (1, "sum"), (SUM,), ("sum", (1,))]
        for thing in bad:
            self.no_gates([thing])
            self.no_gates([thing, SUM])
            self.no_gates([SUM, thing])
            self.no_gates([SUM, thing, SUM])

    def test_no_kind(self):
        for kind in odd_things() + [0, 1, [], ["sum"], (), ("sum",), "", "Sum", "SUM", "sum ", " sum", "ins", "i",
                                    "ones", "and", b"sum", "in out"]:
            self.no_gates([(kind, 0)])
            self.no_gates([SUM, (kind, 0)])

    def test_no_wait(self):
        for wait in odd_things() + ["", "0", "1", [], [1], (), (1,)]:
            for kind in KINDS:
                self.no_gates([(kind, wait)])

    def test_no_wires_are_needed(self):
        self.assertEqual(Net([("in", 0)], []).wires, [])
        self.assertEqual(Net([("sum", 0), ("times", 1), ("most", 2), ("least", 3), ("one", 4)], []).wires, [])


class Wires(Helpers):
    GATES = [("in", 0), SUM, ("out", 0), ("first", 2)]
    GOOD = [(0, 1, ()), (1, 2, ()), (1, 3, (4,))]

    def test_good(self):
        net = Net(self.GATES, self.GOOD)
        self.assertEqual(net.gates, self.GATES)
        self.assertEqual(net.wires, self.GOOD)

    def test_no_list(self):
        for thing in odd_things() + ["", "wires", 0, 1, HUGE, (), ((0, 1, ()),), tuple(self.GOOD)]:
            self.no_wires(-1, self.GATES, thing)
            self.no_wires(-1, [SUM], thing)

    def test_no_wire_at_any_place(self):
        bad = odd_things() + ["wire", "", 0, 1, [], [0, 1, ()], (), (0,), (0, 1), (0, 1, (), ()), (0, 1, 1),
                              ((0, 1), ()), ((0, 1, ()),)]
        for thing in bad:
            for place in range(4):
                self.no_wires(place, self.GATES, self.GOOD[:place] + [thing] + self.GOOD[place:])

    def test_no_start_and_no_end(self):
        bad = odd_things() + ["", "0", "1", [], [1], (), (1,), -1, -2, 4, 5, 97, HUGE, -HUGE]
        for thing in bad:
            for place in range(4):
                for wire in ((thing, 1, (3,)), (1, thing, (3,)), (thing, thing, (3,))):
                    self.no_wires(place, self.GATES, self.GOOD[:place] + [wire] + self.GOOD[place:])

    def test_greatest_and_least_number_of_a_gate(self):
        self.assertEqual(Net([SUM, SUM], [(0, 1, ()), (1, 0, (2,))]).wires, [(0, 1, ()), (1, 0, (2,))])
        self.no_wires(0, [SUM, SUM], [(0, 2, ())])
        self.no_wires(0, [SUM, SUM], [(2, 0, ())])
        self.no_wires(0, [SUM, SUM], [(-1, 0, ())])
        self.no_wires(0, [SUM, SUM], [(0, -1, ())])

    def test_no_tuple_of_worths(self):
        for held in odd_things() + ["", "a", 0, 1, HUGE, [], [1], [1, 2]]:
            for place in range(4):
                self.no_wires(place, self.GATES, self.GOOD[:place] + [(0, 1, held)] + self.GOOD[place:])

    def test_edges_of_worths(self):
        for worth in (0, 1, 95, 96):
            for held in ((worth,), (worth, 0), (5, worth, worth)):
                self.assertEqual(Net([SUM], [(0, 0, held)]).wires, [(0, 0, held)])
        for worth in odd_things() + [-1, 97, 98, 100, 101, HUGE, -HUGE, "", "1", [], [1], (), (1,)]:
            for held in ((worth,), (worth, 0), (0, worth), (1, 2, worth)):
                self.no_wires(0, [SUM], [(0, 0, held)])

    def test_into_an_in(self):
        for held in ((), (1,), (1, 2)):
            for start in (0, 1, 3):
                self.no_wires(3, self.GATES, self.GOOD + [(start, 0, held)])
                self.no_wires(0, self.GATES, [(start, 0, held)] + self.GOOD)

    def test_out_of_an_out(self):
        for held in ((), (1,), (1, 2)):
            for end in (0, 1, 2, 3):
                self.no_wires(3, self.GATES, self.GOOD + [(2, end, held)])
                self.no_wires(0, self.GATES, [(2, end, held)] + self.GOOD)

    def test_second_into_an_out(self):
        for held in ((), (1,)):
            self.no_wires(3, self.GATES, self.GOOD + [(0, 2, held)])
            self.no_wires(3, self.GATES, self.GOOD + [(1, 2, held), (1, 2, held)])
            self.no_wires(2, self.GATES, [(0, 2, held)] + self.GOOD)

    def test_one_into_each_of_two_outs(self):
        net = Net([("out", 0), ("in", 0), ("out", 0)], [(1, 0, ()), (1, 2, (3,))])
        self.assertEqual(net.outs(), [0, 2])

    def test_the_first_fault_is_told(self):
        self.no_wires(1, self.GATES, [(0, 1, ()), (1, 0, ()), None])
        self.no_wires(1, self.GATES, [(0, 1, ()), None, (1, 0, ())])
        self.no_wires(2, self.GATES, [(1, 2, ()), (0, 1, ()), (1, 2, ()), (0, 0, ()), None])

    def test_an_out_has_a_wire(self):
        self.no_wires(0, [("out", 0)], [])
        self.no_wires(2, self.GATES, [(0, 1, ()), (1, 3, ())])
        self.no_wires(1, [("in", 0), ("out", 0), ("out", 0)], [(0, 2, ())])

    def test_a_first_has_a_wire(self):
        self.no_wires(0, [("first", 0)], [])
        self.no_wires(2, self.GATES, [(0, 1, ()), (1, 2, ())])
        self.no_wires(1, [("first", 0), ("first", 0)], [(0, 1, (1,))])
        self.assertEqual(Net([("first", 0)], [(0, 0, (1,))]).wires, [(0, 0, (1,))])
        two = [(0, 1, ()), (0, 1, ())]
        self.assertEqual(Net([SUM, ("first", 0)], two).wires, two)

    def test_a_bad_wire_goes_ahead_of_a_missing_one(self):
        self.no_wires(1, self.GATES, [(0, 1, ()), None])

    def test_same_wire_twice(self):
        twice = [(0, 1, (3,)), (0, 1, (3,))]
        self.assertEqual(Net([SUM, SUM], twice).wires, twice)


class Order(Helpers):
    def test_gates_go_ahead_of_wires(self):
        for wires in (None, [None], [(0, 0, ())], [(0, 9, ())]):
            for gates in (None, [], [None], [("sum", 101)]):
                self.no_gates(gates, wires)

    def test_wires_go_ahead_of_rings(self):
        self.no_wires(1, [SUM], [(0, 0, ()), None])
        self.no_wires(1, [SUM, ("out", 0)], [(0, 0, ())])
        self.no_wires(1, [SUM, ("first", 0)], [(0, 0, ())])


class Rings(Helpers):
    def test_of_one_gate(self):
        self.assertEqual(self.no_ring([SUM], [(0, 0, ())]), [0])
        self.assertEqual(self.no_ring([SUM, SUM], [(0, 1, ()), (1, 0, (1,)), (1, 1, ())]), [2])

    def test_of_several_gates(self):
        self.assertEqual(sorted(self.no_ring([SUM, SUM], [(0, 1, ()), (1, 0, ())])), [0, 1])
        wires = [(2, 0, ()), (0, 1, ()), (1, 2, ())]
        self.assertEqual(sorted(self.no_ring([SUM] * 3, wires)), [0, 1, 2])

    def test_with_gates_ahead_and_behind_that_are_on_none(self):
        gates = [("out", 0), SUM, SUM, SUM, SUM, ("in", 0), SUM]
        wires = [(5, 4, ()), (4, 3, ()), (3, 2, ()), (2, 3, ()), (2, 1, ()), (1, 0, ()), (1, 6, ()), (4, 1, ())]
        self.assertEqual(sorted(self.no_ring(gates, wires)), [2, 3])

    def test_wires_that_hold_registers_are_on_none(self):
        wires = [(0, 1, (1,)), (0, 1, ()), (1, 0, (2, 3)), (1, 0, ())]
        self.assertEqual(sorted(self.no_ring([SUM, SUM], wires)), [1, 3])
        self.assertEqual(sorted(self.no_ring([SUM, SUM], wires[::-1])), [0, 2])

    def test_of_several_rings_one_is_told(self):
        wires = [(0, 1, ()), (1, 0, ()), (1, 2, ()), (2, 1, ()), (2, 2, ()), (0, 2, ()), (2, 3, ())]
        self.no_ring([SUM] * 4, wires)
        self.no_ring([SUM] * 4, wires[::-1])

    def test_of_twelve_gates(self):
        wires = [(k, (k + 1) % 12, ()) for k in range(12)]
        for turn in range(12):
            self.assertEqual(sorted(self.no_ring([SUM] * 12, wires[turn:] + wires[:turn])), list(range(12)))
        wires = [(k, (k + 5) % 12, ()) for k in range(12)] + [(k, (k + 1) % 12, ()) for k in range(12)]
        self.no_ring([SUM] * 12, wires)

    def test_the_list_told_is_a_new_one_each_time(self):
        wires = [(0, 1, ()), (1, 0, ())]
        first = self.no_ring([SUM, SUM], wires)
        first.append(9)
        self.assertEqual(sorted(self.no_ring([SUM, SUM], wires)), [0, 1])
        self.assertEqual(wires, [(0, 1, ()), (1, 0, ())])

    def test_one_register_is_enough(self):
        for held in ((0,), (1,), (0, 0, 5)):
            for wires in ([(0, 0, held)], [(0, 1, held), (1, 0, ())], [(0, 1, ()), (1, 2, ()), (2, 0, held)]):
                self.assertEqual(Net([SUM] * 3, wires).wires, wires)

    def test_ways_that_meet_again_are_no_ring(self):
        wires = [(3, 1, ()), (3, 2, ()), (1, 0, ()), (2, 0, ()), (3, 0, ()), (3, 0, ())]
        self.assertEqual(Net([SUM] * 4, wires).wires, wires)


class Fields(Helpers):
    def test_what_was_handed_in_stands_as_ahead(self):
        gates = [("in", 0), SUM, ("out", 0)]
        wires = [(0, 1, ()), (1, 1, (3,)), (1, 2, (4, 5))]
        Net(gates, wires)
        self.assertEqual(gates, [("in", 0), SUM, ("out", 0)])
        self.assertEqual(wires, [(0, 1, ()), (1, 1, (3,)), (1, 2, (4, 5))])

    def test_what_was_refused_stands_as_ahead(self):
        gates, wires = [SUM, SUM], [(0, 1, ()), (1, 0, ())]
        self.no_ring(gates, wires)
        bad = [(0, 1, ()), None]
        self.no_wires(1, gates, bad)
        self.assertEqual((gates, wires, bad), ([SUM, SUM], [(0, 1, ()), (1, 0, ())], [(0, 1, ()), None]))

    def test_lists_changed_afterwards_change_no_net(self):
        gates, wires = [SUM, SUM], [(0, 1, (3,))]
        net = Net(gates, wires)
        gates.append(("in", 0))
        gates[0] = ("one", 9)
        wires.clear()
        self.assertEqual(net.gates, [SUM, SUM])
        self.assertEqual(net.wires, [(0, 1, (3,))])

    def test_two_nets_of_the_same_lists_have_their_own(self):
        gates, wires = [SUM, SUM], [(0, 1, (3,))]
        net, other = Net(gates, wires), Net(gates, wires)
        net.gates.append(SUM)
        net.wires.append((0, 0, (1,)))
        self.assertEqual((other.gates, other.wires), ([SUM, SUM], [(0, 1, (3,))]))
        self.assertEqual((gates, wires), ([SUM, SUM], [(0, 1, (3,))]))

    def test_net_of_a_nets_lists(self):
        net = small_net()
        other = Net(net.gates, net.wires)
        other.gates.clear()
        other.wires.clear()
        self.assertEqual(net, small_net())

    def test_kinds_of_the_fields(self):
        net = small_net()
        self.assertIs(type(net.gates), list)
        self.assertIs(type(net.wires), list)

    def test_by_name_and_in_another_order(self):
        wires = [(0, 0, (1,))]
        self.assertEqual(Net(wires=wires, gates=[SUM]), Net([SUM], wires))
        self.assertEqual(Net([SUM], wires=wires), Net([SUM], wires))
        with self.assertRaises(NoGates):
            Net(wires=None, gates=None)


class Equal(unittest.TestCase):
    def test_equal_nets(self):
        for seed in range(5):
            net, other = fixed_net(seed), fixed_net(seed)
            self.assertTrue(net == other)
            self.assertTrue(other == net)
            self.assertTrue(net == net)
            self.assertFalse(net != other)

    def test_unequal_nets(self):
        net = small_net()
        others = [Net([("in", 0), ("sum", 4), ("out", 0)], net.wires),
                  Net([("in", 0), ("most", 3), ("out", 0)], net.wires),
                  Net(net.gates + [("sum", 3)], net.wires),
                  Net(net.gates, [(0, 1, ()), (1, 1, (6,)), (1, 2, ())]),
                  Net(net.gates, [(0, 1, ()), (1, 1, (5, 5)), (1, 2, ())]),
                  Net(net.gates, [(0, 1, ()), (1, 1, (5,)), (0, 2, ())]),
                  Net(net.gates, [(1, 1, (5,)), (0, 1, ()), (1, 2, ())]),
                  Net(net.gates, net.wires + [(0, 1, ())])]
        for other in others:
            self.assertFalse(net == other)
            self.assertFalse(other == net)
            self.assertTrue(net != other)

    def test_to_things_that_are_no_nets(self):
        class Alike:
            def __init__(self, net):
                self.gates, self.wires = net.gates, net.wires

        net = small_net()
        things = [None, True, False, 0, 1, "", "net", [], (), {}, object(), Net, Alike(net), Touchy(), Agreeing(),
                  net.gates, net.wires, (net.gates, net.wires), [net.gates, net.wires]]
        for thing in things:
            self.assertIs(net == thing, False)
            self.assertIs(net != thing, True)
        for thing in things:
            if not isinstance(thing, (Touchy, Agreeing)):
                self.assertFalse(thing == net)
                self.assertTrue(thing != net)

    def test_comparing_changes_nothing(self):
        net, other = fixed_net(3), fixed_net(3)
        self.assertEqual(net == other, net == other)
        self.assertEqual((net.gates, net.wires), (other.gates, other.wires))


class InsAndOuts(unittest.TestCase):
    def test_rising(self):
        gates = [("out", 0), ("in", 0), SUM, ("out", 0), ("in", 0), ("in", 0), ("out", 0)]
        net = Net(gates, [(1, 6, ()), (4, 3, ()), (2, 0, (3,))])
        self.assertEqual(net.ins(), [1, 4, 5])
        self.assertEqual(net.outs(), [0, 3, 6])

    def test_none(self):
        net = Net([SUM], [])
        self.assertEqual((net.ins(), net.outs()), ([], []))
        self.assertIs(type(net.ins()), list)
        self.assertIs(type(net.outs()), list)

    def test_lists_are_new_ones(self):
        net = small_net()
        net.ins().append(7)
        net.outs().clear()
        told = net.ins()
        told[0] = 9
        self.assertEqual((net.ins(), net.outs()), ([0], [2]))
        self.assertEqual(net, small_net())


class Bounds(unittest.TestCase):
    def test_greatest_net(self):
        net = greatest_net()
        self.assertEqual((len(net.gates), len(net.wires)), (12, 30))
        self.assertEqual(sum(len(wire[2]) for wire in net.wires), 200)

    def test_two_hundred_registers_on_one_wire(self):
        held = tuple(k % 97 for k in range(200))
        self.assertEqual(Net([SUM], [(0, 0, held)]).wires, [(0, 0, held)])


class Interface(unittest.TestCase):
    def test_names_and_arguments(self):
        self.assertEqual(Net.__module__, "lagshift.nets")
        self.assertEqual(nets.Net, Net)
        self.assertEqual(list(inspect.signature(Net).parameters), ["gates", "wires"])
        for name in ("ins", "outs", "__eq__"):
            self.assertIn(name, vars(Net))

    def test_refusals_are_lag_errors(self):
        for gates, wires in ((None, []), ([SUM], None), ([SUM], [(0, 0, ())])):
            with self.assertRaises(LagError):
                Net(gates, wires)


if __name__ == "__main__":
    unittest.main()
