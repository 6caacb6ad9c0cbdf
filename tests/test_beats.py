"""Beats: [7], [8], with [2], [4] and [5]."""

import inspect
import itertools
import time
import unittest

from lagshift import beats
from lagshift.beats import beat, run, worths
from lagshift.errors import LagError, NoRow
from lagshift.nets import Net
from tests.slow import Slow
from tests.things import HUGE, fixed_net, fixed_rows, greatest_net, odd_things, small_net

BAD_WORTHS = odd_things() + [-1, 97, 98, 100, 101, HUGE, -HUGE, "", "1", [], [1], (), (1,)]


def fed(kind, many):
    """A gate of this kind, at place 0, with so many ins and an out."""
    gates = [(kind, 5), ("out", 0)] + [("in", 0)] * many
    return Net(gates, [(0, 1, ())] + [(2 + k, 0, ()) for k in range(many)])


class EachKind(unittest.TestCase):
    def test_of_no_wires(self):
        for kind, worth in (("sum", 0), ("times", 1), ("most", 0), ("least", 96), ("one", 0)):
            self.assertEqual(worths(fed(kind, 0), []), [worth, worth])

    def test_of_one_wire(self):
        for worth in (0, 1, 2, 50, 95, 96):
            for kind in ("sum", "times", "most", "least", "first"):
                self.assertEqual(worths(fed(kind, 1), [worth]), [worth, worth, worth])
            one = 1 if worth > 0 else 0
            self.assertEqual(worths(fed("one", 1), [worth]), [one, one, worth])

    def test_sum(self):
        self.assertEqual(worths(fed("sum", 2), [96, 96])[0], 95)
        self.assertEqual(worths(fed("sum", 2), [96, 1])[0], 0)
        self.assertEqual(worths(fed("sum", 2), [95, 1])[0], 96)
        self.assertEqual(worths(fed("sum", 4), [96, 96, 96, 96])[0], 93)

    def test_times(self):
        self.assertEqual(worths(fed("times", 2), [96, 96])[0], 1)
        self.assertEqual(worths(fed("times", 2), [2, 49])[0], 1)
        self.assertEqual(worths(fed("times", 2), [10, 10])[0], 3)
        self.assertEqual(worths(fed("times", 3), [0, 96, 96])[0], 0)
        self.assertEqual(worths(fed("times", 3), [96, 96, 96])[0], 96)

    def test_most_and_least(self):
        for row in itertools.permutations([7, 50, 96]):
            self.assertEqual(worths(fed("most", 3), list(row))[0], 96)
            self.assertEqual(worths(fed("least", 3), list(row))[0], 7)
        self.assertEqual(worths(fed("most", 2), [0, 0])[0], 0)
        self.assertEqual(worths(fed("least", 2), [96, 96])[0], 96)

    def test_first(self):
        self.assertEqual(worths(fed("first", 3), [4, 9, 1])[0], 4)
        self.assertEqual(worths(fed("first", 3), [9, 1, 4])[0], 9)

    def test_first_is_by_the_places_of_wires(self):
        gates = [("in", 0), ("in", 0), ("first", 1)]
        self.assertEqual(worths(Net(gates, [(0, 2, ()), (1, 2, ())]), [3, 8]), [3, 8, 3])
        self.assertEqual(worths(Net(gates, [(1, 2, ()), (0, 2, ())]), [3, 8]), [3, 8, 8])
        self.assertEqual(worths(Net(gates, [(1, 2, (6,)), (0, 2, ())]), [3, 8]), [3, 8, 6])

    def test_one(self):
        self.assertEqual(worths(fed("one", 3), [0, 0, 0])[0], 0)
        for row in ([0, 0, 1], [96, 0, 0], [0, 2, 0], [5, 5, 5]):
            self.assertEqual(worths(fed("one", 3), row)[0], 1)

    def test_the_same_wire_twice(self):
        for kind, worth in (("sum", 14), ("times", 49), ("most", 7), ("least", 7), ("first", 7), ("one", 1)):
            for held in ((), (7,), (7, 3)):
                net = Net([("in", 0), (kind, 1)], [(0, 1, held), (0, 1, held)])
                self.assertEqual(worths(net, [7]), [7, worth])

    def test_the_wait_does_not_matter(self):
        for wait in (0, 1, 96, 97, 100):
            net = Net([("in", 0), ("sum", wait)], [(0, 1, ()), (0, 1, ())])
            self.assertEqual(worths(net, [8]), [8, 16])


class Worths(unittest.TestCase):
    def test_a_wire_with_registers_has_the_first_ones_worth(self):
        gates = [("in", 0), ("sum", 1), ("out", 0)]
        self.assertEqual(worths(Net(gates, [(0, 1, (4, 9)), (1, 2, (20,))]), [1]), [1, 4, 20])
        self.assertEqual(worths(Net(gates, [(0, 1, ()), (1, 2, (20,))]), [1]), [1, 1, 20])
        self.assertEqual(worths(Net(gates, [(0, 1, (0,)), (1, 2, ())]), [1]), [1, 0, 0])

    def test_from_greater_numbers_to_lesser_ones(self):
        gates = [("out", 0), ("sum", 1), ("times", 1), ("most", 1), ("in", 0)]
        net = Net(gates, [(1, 0, ()), (2, 1, ()), (3, 2, ()), (4, 3, ()), (4, 1, ()), (3, 2, ())])
        self.assertEqual(worths(net, [5]), [30, 30, 25, 5, 5])

    def test_gates_in_any_order(self):
        kinds = [("in", 0), ("sum", 2), ("times", 3), ("most", 4), ("out", 0)]
        wires = [(0, 1, ()), (0, 1, ()), (1, 2, ()), (0, 2, ()), (2, 3, ()), (1, 3, ()), (3, 4, ())]
        plain = worths(Net(kinds, wires), [7])
        self.assertEqual(plain, [7, 14, 1, 14, 14])
        for place in itertools.permutations(range(5)):
            gates = [kinds[place.index(k)] for k in range(5)]
            net = Net(gates, [(place[start], place[end], held) for start, end, held in wires])
            self.assertEqual(worths(net, [7]), [plain[place.index(k)] for k in range(5)])

    def test_row_goes_to_the_ins_in_order(self):
        net = Net([("sum", 1), ("in", 0), ("out", 0), ("in", 0), ("in", 0)], [(3, 2, ()), (4, 0, ())])
        self.assertEqual(worths(net, [10, 20, 30]), [30, 10, 20, 20, 30])

    def test_an_in_without_wires(self):
        self.assertEqual(worths(Net([("in", 0)], []), [96]), [96])

    def test_a_net_without_in(self):
        net = Net([("sum", 1), ("out", 0), ("times", 0)], [(0, 0, (3,)), (2, 0, ()), (0, 1, ())])
        self.assertEqual(worths(net, []), [4, 4, 1])
        self.assertEqual(run(net, [[], [], []])[1], [[4], [5], [6]])

    def test_against_the_slow_way(self):
        for seed in range(60):
            net = fixed_net(seed)
            row = fixed_rows(seed, net, 1)[0]
            slow = Slow(net, [row])
            self.assertEqual(worths(net, row), [slow.gate(k, 0) for k in range(len(net.gates))])


class Beat(unittest.TestCase):
    def test_registers_go_on(self):
        net = Net([("in", 0), ("sum", 1), ("out", 0)], [(0, 1, (4, 9, 2)), (1, 2, (20,)), (0, 1, ())])
        behind, outs = beat(net, [33])
        self.assertEqual(outs, [20])
        self.assertEqual(behind.wires, [(0, 1, (9, 2, 33)), (1, 2, (37,)), (0, 1, ())])
        self.assertEqual(behind.gates, net.gates)

    def test_a_ring(self):
        behind, outs = beat(small_net(), [4])
        self.assertEqual((behind.wires[1], outs), ((1, 1, (9,)), [9]))

    def test_outs_rise(self):
        net = Net([("out", 0), ("in", 0), ("out", 0), ("in", 0)], [(3, 0, ()), (1, 2, ())])
        self.assertEqual(beat(net, [5, 6])[1], [6, 5])

    def test_no_outs(self):
        self.assertEqual(beat(Net([("sum", 1)], []), [])[1], [])

    def test_kinds_of_what_is_told(self):
        told = beat(small_net(), [4])
        self.assertEqual((type(told), len(told), type(told[0]), type(told[1])), (tuple, 2, Net, list))
        self.assertIs(type(worths(small_net(), [4])), list)

    def test_a_new_net_also_without_registers(self):
        net = Net([("in", 0), ("out", 0)], [(0, 1, ())])
        behind, outs = beat(net, [3])
        self.assertEqual(behind, net)
        self.assertIsNot(behind, net)
        self.assertIsNot(behind.gates, net.gates)
        self.assertIsNot(behind.wires, net.wires)


class Run(unittest.TestCase):
    def test_of_no_rows(self):
        for net in (small_net(), greatest_net(), Net([("sum", 0)], [])):
            behind, outs = run(net, [])
            self.assertEqual((behind, outs), (net, []))
            self.assertIs(type(outs), list)
            self.assertIsNot(behind, net)
            self.assertIsNot(behind.gates, net.gates)
            self.assertIsNot(behind.wires, net.wires)

    def test_of_one_row_is_a_beat(self):
        for seed in range(20):
            net = fixed_net(seed)
            row = fixed_rows(seed, net, 1)[0]
            behind, outs = beat(net, row)
            self.assertEqual(run(net, [row]), (behind, [outs]))

    def test_beats_behind_each_other(self):
        for seed in range(20):
            net = now = fixed_net(seed)
            rows, told = fixed_rows(seed, net, 12), []
            for row in rows:
                now, outs = beat(now, row)
                told.append(outs)
            self.assertEqual(run(net, rows), (now, told))

    def test_in_two_parts(self):
        for seed in range(10):
            net = fixed_net(seed)
            rows = fixed_rows(seed, net, 10)
            for cut in range(11):
                half, ahead = run(net, rows[:cut])
                whole, later = run(half, rows[cut:])
                self.assertEqual((whole, ahead + later), run(net, rows))

    def test_against_the_slow_way(self):
        for seed in range(60):
            net = fixed_net(seed, gates=4 + seed % 9, wires=10 + seed % 21)
            rows = fixed_rows(seed, net, 15)
            slow = Slow(net, rows)
            self.assertEqual(run(net, rows), (slow.net_behind(), slow.outs()))

    def test_kinds_of_what_is_told(self):
        told = run(small_net(), [[1], [2]])
        self.assertEqual((type(told), len(told), type(told[0]), type(told[1])), (tuple, 2, Net, list))
        self.assertEqual([type(outs) for outs in told[1]], [list, list])
        self.assertEqual(told[1], [[6], [8]])

    def test_rows_without_ins_or_outs(self):
        net = Net([("sum", 1), ("times", 1)], [(0, 0, (3,)), (1, 0, (2,))])
        self.assertEqual(run(net, [[], []]), (Net(net.gates, [(0, 0, (6,)), (1, 0, (1,))]), [[], []]))

    def test_the_same_row_many_times(self):
        row = [2]
        self.assertEqual(run(small_net(), [row] * 4)[1], [[7], [9], [11], [13]])
        self.assertEqual(row, [2])


class Refused(unittest.TestCase):
    def no_row(self, net, row):
        for function in (worths, beat):
            with self.assertRaises(NoRow):
                function(net, row)
        for rows in ([row], [[0] * len(net.ins()), row], [row, [0] * len(net.ins())]):
            with self.assertRaises(NoRow):
                run(net, rows)

    def test_no_list(self):
        for net in (small_net(), Net([("sum", 1)], [])):
            for thing in odd_things() + ["", "a", "1", 0, 1, HUGE, (), (1,), (0,)]:
                self.no_row(net, thing)

    def test_too_long_and_too_short(self):
        two = Net([("in", 0), ("in", 0)], [])
        for row in ([], [1], [1, 2, 3], [[1, 2]], [1, 2, 3, 4]):
            self.no_row(two, row)
        self.no_row(Net([("sum", 1)], []), [0])
        self.no_row(small_net(), [])
        self.no_row(small_net(), [1, 1])

    def test_no_worths(self):
        two = Net([("in", 0), ("in", 0)], [])
        for thing in BAD_WORTHS:
            self.no_row(small_net(), [thing])
            self.no_row(two, [thing, 0])
            self.no_row(two, [0, thing])

    def test_edges(self):
        for worth in (0, 96):
            self.assertEqual(worths(Net([("in", 0)], []), [worth]), [worth])
            self.assertEqual(beat(small_net(), [worth])[1], [(worth + 5) % 97])
            self.assertEqual(run(small_net(), [[worth]])[1], [[(worth + 5) % 97]])

    def test_no_list_of_rows(self):
        for thing in odd_things() + ["", "a", 0, 1, HUGE, (), ([1],), ((1,),), [1], [0], ["1"], [(1,)]]:
            with self.assertRaises(NoRow):
                run(small_net(), thing)

    def test_refusals_are_lag_errors(self):
        for error in (LagError, ValueError):
            with self.assertRaises(error):
                run(small_net(), None)

    def test_what_was_refused_stands_as_ahead(self):
        net, rows = small_net(), [[1], [97], [2]]
        for function, argument in ((worths, [97]), (beat, [97]), (run, rows)):
            with self.assertRaises(NoRow):
                function(net, argument)
        self.assertEqual((net, rows), (small_net(), [[1], [97], [2]]))


class Untouched(unittest.TestCase):
    def test_net_and_rows_stand_as_ahead(self):
        for seed in range(10):
            net = fixed_net(seed)
            rows = fixed_rows(seed, net, 8)
            worths(net, rows[0])
            beat(net, rows[0])
            run(net, rows)
            self.assertEqual((net, rows), (fixed_net(seed), fixed_rows(seed, net, 8)))

    def test_the_same_question_twice(self):
        for seed in range(10):
            net = fixed_net(seed)
            rows = fixed_rows(seed, net, 8)
            for ask in (lambda: worths(net, rows[0]), lambda: beat(net, rows[0]), lambda: run(net, rows)):
                self.assertEqual(ask(), ask())

    def test_told_lists_are_the_askers_own(self):
        net, rows = small_net(), [[3], [4]]
        expected = (worths(net, [3]), beat(net, [3]), run(net, rows), run(net, []))
        for told in (beat(net, [3]), run(net, rows), run(net, [])):
            told[0].gates.clear()
            told[0].wires.clear()
            told[1].append(9)
        worths(net, [3]).clear()
        for outs in run(net, rows)[1]:
            outs.append(9)
        self.assertEqual((net, rows), (small_net(), [[3], [4]]))
        self.assertEqual((worths(net, [3]), beat(net, [3]), run(net, rows), run(net, [])), expected)

    def test_outs_lists_are_not_one_another(self):
        net, row = Net([("in", 0), ("out", 0)], [(0, 1, ())]), [5]
        told = run(net, [row, row])[1]
        told[0].append(1)
        self.assertEqual((told[1], row), ([5], [5]))
        worths(Net([("in", 0)], []), row).append(1)
        self.assertEqual(row, [5])

    def test_the_first_net_changed_changes_no_net_behind(self):
        net = small_net()
        behind = [beat(net, [3])[0], run(net, [[3]])[0]]
        still = run(net, [])[0]
        net.gates.clear()
        net.wires.clear()
        self.assertEqual(behind, [beat(small_net(), [3])[0]] * 2)
        self.assertEqual(still, small_net())


class Bounds(unittest.TestCase):
    def test_greatest_net_in_a_short_time(self):
        net = greatest_net()
        rows = fixed_rows(1, net, 100)
        began = time.monotonic()
        told = run(net, rows)
        self.assertLess(time.monotonic() - began, 5)
        slow = Slow(net, rows)
        self.assertEqual(told, (slow.net_behind(), slow.outs()))

    def test_two_hundred_registers_on_one_wire(self):
        held = tuple(k % 97 for k in range(200))
        net = Net([("in", 0), ("out", 0)], [(0, 1, held)])
        rows = [[k * 5 % 97] for k in range(100)]
        behind, outs = run(net, rows)
        self.assertEqual(outs, [[worth] for worth in held[:100]])
        self.assertEqual(behind.wires, [(0, 1, held[100:] + tuple(row[0] for row in rows))])

    def test_a_long_way_without_registers(self):
        gates = [("out", 0)] + [("sum", 100)] * 10 + [("in", 0)]
        wires = [(k + 1, k, ()) for k in range(11)] + [(k + 1, k, ()) for k in range(1, 11)]
        self.assertEqual(beat(Net(gates, wires), [1])[1], [1024 % 97])


class Interface(unittest.TestCase):
    def test_names_and_arguments(self):
        for function, names in ((worths, ["net", "row"]), (beat, ["net", "row"]), (run, ["net", "rows"])):
            self.assertEqual(function.__module__, "lagshift.beats")
            self.assertEqual(getattr(beats, function.__name__), function)
            self.assertEqual(list(inspect.signature(function).parameters), names)

    def test_by_name_and_in_another_order(self):
        net = small_net()
        self.assertEqual(worths(row=[3], net=net), worths(net, [3]))
        self.assertEqual(beat(row=[3], net=net), beat(net, [3]))
        self.assertEqual(run(rows=[[3], [4]], net=net), run(net, [[3], [4]]))
        self.assertEqual(run(net, rows=[]), run(net, []))


if __name__ == "__main__":
    unittest.main()
