"""Shares: [25], [26], with [2], [3] and [9]."""

import copy
import inspect
import time
import unittest

from lagshift import shares as module
from lagshift.bars import bar_fault, least_beat
from lagshift.errors import LagError, NoBeat, NoLags, NoLagsThere, NoPaper, NotLet
from lagshift.fewest import fewest, paper_fault
from lagshift.nets import Net
from lagshift.shares import fewest_shared, shared, shared_bound, shared_fault
from lagshift.streams import slowed
from lagshift.waits import with_lags
from tests.slow import (all_lags, balance, bound_by_hand, fewest_by_hand, is_bar, is_for, moved_counts,
                        shared_by_hand)
from tests.things import (HUGE, bound_nets, few_registers, fixed_lags, fixed_net, let_lags, no_beats, no_pieces,
                          odd_things, sample_net, small_net)

FORM = ("form",)
SUM = ("sum", 1)


def first_pick(net):
    """The first wire out of each gate."""
    starts = [wire[0] for wire in net.wires]
    return [place for place, start in enumerate(starts) if start not in starts[:place]]


def plain_thing(net):
    """A shared paper without fault: the first wire out of each gate, each for itself."""
    pick = first_pick(net)
    return (pick, [((net.wires[place][0], [place]), 1) for place in pick])


def fan():
    """A gate with three wires out, of 1, 3 and 2 registers."""
    gates = [("in", 0), ("sum", 10), ("out", 0), ("out", 0), ("sum", 5)]
    return Net(gates, [(0, 1, (1, 2)), (1, 2, (3,)), (1, 3, (4, 5, 6)), (1, 4, (7, 8))])


class Shared(unittest.TestCase):
    def test_by_hand(self):
        self.assertEqual(shared(fan(), [0, 0, 0, 0, 0]), 2 + 3)
        self.assertEqual(shared(fan(), [0, 1, 0, 0, 0]), 3 + 2)
        self.assertEqual(shared(fan(), [0, -2, 0, 0, 0]), 0 + 5)
        self.assertEqual(shared(fan(), [0, 0, 0, 0, 5]), 2 + 7)
        self.assertEqual(shared(fan(), [0, 0, 0, 0, 1]), 2 + 3)
        self.assertEqual(shared(fan(), [0, 0, 0, 0, -2]), 2 + 3)
        self.assertEqual(shared(small_net(), [0, 0, 0]), 0 + 1)

    def test_without_wires_and_without_registers(self):
        self.assertEqual(shared(Net([SUM], []), [500]), 0)
        self.assertEqual(shared(Net([SUM] * 3, [(0, 1, ()), (0, 2, ())]), [0, 0, 0]), 0)
        self.assertEqual(shared(Net([SUM] * 3, [(0, 1, ()), (0, 2, ())]), [-1, 0, 6]), 7)

    def test_a_wire_from_a_gate_to_itself_shares_too(self):
        net = Net([SUM, SUM], [(0, 0, (1, 2, 3)), (0, 1, (4, 5, 6, 7, 8))])
        self.assertEqual([shared(net, [lag, 0]) for lag in (0, 1, 2, 3, 5, -1)], [5, 4, 3, 3, 3, 6])

    def test_wires_into_one_gate_do_not_share(self):
        self.assertEqual(shared(Net([SUM] * 3, [(0, 2, (1,)), (1, 2, (2, 3))]), [0, 0, 0]), 3)

    def test_against_the_slow_way(self):
        for seed in range(80):
            net = fixed_net(seed, 3 + seed % 9, 6 + seed % 15, 1 + seed % 4)
            lags = let_lags(seed, net)
            told = shared(net, lags)
            self.assertEqual((told, type(told)), (shared_by_hand(net, moved_counts(net, lags)), int))

    def test_refused(self):
        for lags in odd_things() + [[], [0, 0], [0, 501, 0], [1, 0, 0], [0, True, 0], (0, 0, 0), [0, "0", 0], "000"]:
            with self.assertRaises(NoLags):
                shared(small_net(), lags)
        for lags, wire in (([0, -3, 0, 0, 0], 0), ([0, 2, 0, 0, 0], 1), ([0, 0, 0, 0, -3], 3), ([0, 4, 0, 0, 9], 1),
                           ([0, -3, 0, 0, -9], 0)):
            with self.assertRaises(NotLet) as caught:
                shared(fan(), lags)
            self.assertEqual(caught.exception.wire, wire)
            self.assertIsInstance(caught.exception, LagError)
        for seed in range(40):
            net = fixed_net(seed)
            lags = fixed_lags(seed, net, 2)
            bad = [k for k, many in enumerate(moved_counts(net, lags)) if many < 0]
            if bad:
                with self.assertRaises(NotLet) as caught:
                    shared(net, lags)
                self.assertEqual(caught.exception.wire, bad[0])


class Form(unittest.TestCase):
    """The wires of the sample net lead out of the gates 0, 1, 2, 2, 4, 5, 1 and 1."""

    PICK = [0, 1, 2, 4, 5]

    def form(self, thing):
        for beat in (0, 15, HUGE):
            self.assertEqual(shared_fault(sample_net(), beat, thing), FORM)
            with self.assertRaises(NoPaper):
                shared_bound(sample_net(), thing, beat)

    def test_no_tuple_of_two(self):
        pick, paper = plain_thing(sample_net())
        self.assertIsNone(shared_fault(sample_net(), 0, (pick, paper)))
        for thing in odd_things() + ["", "ab", 0, 1, HUGE, (), [], [pick, paper], (pick,), (pick, paper, []), paper,
                                     pick, (paper, pick), {0: pick, 1: paper}, sample_net()]:
            self.form(thing)

    def test_no_pick(self):
        paper = plain_thing(sample_net())[1]
        for pick in odd_things() + ["", "01245", 0, 1, HUGE, (), tuple(self.PICK), [], {0: 0}, [self.PICK]]:
            self.form((pick, paper))
        for place in odd_things() + [-1, -8, 8, 9, HUGE, -HUGE, "", "1", [], [1], (), (1,)]:
            self.form(([0, place, 2, 4, 5], paper))
            self.form(([place, 1, 2, 4, 5], paper))
            self.form((self.PICK + [place], paper))
        # Counted from behind these would be one wire out of each gate.
        self.form(([-1, 0, 2, 4, 5], []))
        self.form(([-8, -7, -6, -4, -3], paper))

    def test_other_picks(self):
        paper = plain_thing(sample_net())[1]
        self.assertEqual(first_pick(sample_net()), self.PICK)
        for pick in ([0, 1, 2, 4], [1, 2, 4, 5], [0, 2, 4, 5], [0, 1, 2, 3, 4, 5], [0, 1, 2, 4, 5, 6],
                     [0, 1, 2, 4, 5, 7], [0, 1, 1, 2, 4, 5], [0, 0, 1, 2, 4, 5], [0, 1, 2, 4, 5, 5], [0, 1, 2, 5, 4],
                     [1, 0, 2, 4, 5],
                     [5, 4, 2, 1, 0], [0, 1, 6, 4, 5], [0, 1, 6, 7, 2], [0, 2, 3, 4, 5], [0, 1, 2, 4, 4],
                     list(range(8))):
            self.form((pick, paper))
            self.form((pick, []))

    def test_each_pick_of_the_sample_net(self):
        for one in (1, 6, 7):
            for other in (2, 3):
                pick = sorted([0, one, other, 4, 5])
                paper = [((sample_net().wires[place][0], [place]), 1) for place in pick]
                self.assertIsNone(shared_fault(sample_net(), 0, (pick, paper)))
                self.form((pick[::-1], paper))

    def test_an_entry_that_is_no_tuple_of_a_piece_and_a_number(self):
        paper = plain_thing(sample_net())[1]
        for entry in odd_things() + ["", 0, HUGE, (), ((1, []),), (1, []), [(1, []), 1], ((1, []), 1, 1), (1, (1, []))]:
            self.form((self.PICK, [entry]))
            self.form((self.PICK, paper + [entry]))
        for piece in no_pieces():
            self.form((self.PICK, [(piece, 1)]))
            self.form((self.PICK, paper + [(piece, 1)]))
        for many in odd_things() + [0, -1, -2, -HUGE, "", "1", [], [1], (), (1,)]:
            self.form((self.PICK, paper + [((1, []), many)]))

    def test_no_list_as_paper(self):
        paper = plain_thing(sample_net())[1]
        for thing in odd_things() + ["", 0, 1, HUGE, (), tuple(paper), {0: paper}]:
            self.form((self.PICK, thing))

    def test_form_goes_ahead_of_gates(self):
        self.form((self.PICK, [((1, [1]), 5), None]))
        self.form((self.PICK[1:], [((1, [1]), 5)]))

    def test_empty_picks_and_papers(self):
        self.assertIsNone(shared_fault(Net([SUM], []), 0, ([], [])))
        self.assertEqual(shared_bound(Net([SUM], []), ([], []), 0), 0)
        self.assertEqual(shared_fault(Net([SUM], []), 0, ([0], [])), FORM)
        self.assertEqual(shared_fault(Net([SUM], [(0, 0, (1,))]), 0, ([], [])), FORM)
        self.assertIsNone(shared_fault(Net([SUM], [(0, 0, (1,))]), 0, ([0], [])))


class Gate(unittest.TestCase):
    def test_by_hand(self):
        # Of the fan with wire 0 and one out of gate 1, gate 1 has one in and one out, gate 4 one in if it is wire 3.
        for thing, fault in ((([0, 1], []), None), (([0, 2], []), None), (([0, 3], []), ("gate", 4)),
                             (([0, 3], [((0, [0, 3]), 1)]), None), (([0, 1], [((0, [0, 3]), 1)]), ("gate", 4)),
                             (([0, 1], [((0, [0]), 1)]), ("gate", 1)), (([0, 3], [((1, [3]), 1)]), ("gate", 1)),
                             (([0, 3], [((1, [3]), 1), ((0, [0]), 1)]), None),
                             (([0, 3], [((1, [3]), 2), ((0, [0]), 2)]), ("gate", 4)),
                             (([0, 2], [((0, [0]), 7), ((1, [1]), 3), ((1, [2]), 4), ((4, []), 5)]), None)):
            for beat in (0, 10, HUGE):
                self.assertEqual(shared_fault(fan(), beat, thing), fault)

    def test_only_the_wires_of_the_pick_are_counted(self):
        net = fan()
        whole = [((start, [place]), 1) for place, (start, end, held) in enumerate(net.wires)]
        self.assertIsNone(paper_fault(net, 0, whole))
        self.assertEqual(shared_fault(net, 0, ([0, 1], whole)), ("gate", 1))

    def test_against_the_slow_way(self):
        faults = 0
        for seed in range(200):
            net = fixed_net(seed, 3 + seed % 6, 6 + seed % 9, 1 + seed % 3)
            pick, paper = plain_thing(net)
            paper[seed % len(paper)] = (paper[seed % len(paper)][0], 1 + seed % 3)
            if seed % 5 > 1:
                del paper[(seed * 7) % len(paper)]
            wrong = [k for k, (kind, wait) in enumerate(net.gates)
                     if kind not in ("in", "out") and balance(net, k, paper, pick) != 0]
            self.assertEqual(shared_fault(net, 9, (pick, paper)), ("gate", wrong[0]) if wrong else None)
            faults += bool(wrong)
        self.assertTrue(50 < faults < 190)


class Bound(unittest.TestCase):
    def test_by_hand(self):
        for thing, beat, bound in ((([0, 1], []), 10, 3), (([0, 2], []), 10, 5), (([0, 2], []), 0, 5),
                                   (([0, 3], [((0, [0, 3]), 1)]), 15, 0), (([0, 3], [((0, [0, 3]), 1)]), 14, 1),
                                   (([0, 3], [((1, [3]), 1), ((0, [0]), 1)]), 15, 0),
                                   (([0, 3], [((1, [3]), 1), ((0, [0]), 1)]), 9, 2),
                                   (([0, 2], [((0, [0]), 7), ((1, [1]), 7)]), 10, 5 - 21),
                                   (([0, 2], [((4, []), 9)]), 4, 14), (([0, 2], [((4, []), HUGE)]), 4, 5 + HUGE)):
            self.assertEqual(shared_bound(fan(), thing, beat), bound)

    def test_no_paper_of_what_has_a_fault(self):
        for thing in (None, ([0, 3], []), ([0, 1, 2], []), ([0, 1], [((0, [0]), 1)]), [[0, 1], []], []):
            with self.assertRaises(NoPaper):
                shared_bound(fan(), thing, 10)

    def test_no_lags_for_the_beat_have_fewer(self):
        for seed in range(30):
            net = few_registers(seed, 4 + seed % 2, 7)
            beat = least_beat(net)[0]
            bound = shared_bound(net, plain_thing(net), beat)
            self.assertEqual(bound, bound_by_hand(net, beat, plain_thing(net)[1], first_pick(net)))
            for lags in all_lags(net, 2):
                if with_lags(net, lags, beat):
                    self.assertGreaterEqual(shared(net, lags), bound)


class Fewest(unittest.TestCase):
    def check(self, net, beat):
        """The number told, where lags and shared paper are seen to be right."""
        told = fewest_shared(net, beat)
        self.assertEqual((type(told), len(told)), (tuple, 3))
        many, lags, thing = told
        self.assertEqual((type(many), type(lags), type(thing), len(thing)), (int, list, tuple, 2))
        pick, paper = thing
        self.assertEqual((type(pick), {type(place) for place in pick} - {int}), (list, set()))
        self.assertEqual(pick, sorted(pick))
        self.assertEqual(sorted(net.wires[place][0] for place in pick), sorted({wire[0] for wire in net.wires}))
        self.assertTrue(is_for(net, lags, beat), (lags, beat))
        self.assertEqual(shared_by_hand(net, moved_counts(net, lags)), many)
        self.assertEqual(bound_by_hand(net, beat, paper, pick), many)
        self.assertIsNone(shared_fault(net, beat, thing))
        self.assertEqual((shared_bound(net, thing, beat), shared(net, lags)), (many, many))
        self.assertIs(with_lags(net, lags, beat), True)
        self.assertLessEqual(many, fewest(net, beat)[0])
        return many

    def test_by_hand(self):
        self.assertEqual([self.check(fan(), beat) for beat in (10, 15, HUGE)], [5, 5, 5])
        # Three outs with one register each: shared they are one, whether ahead of the gate or behind.
        gates = [("in", 0), ("sum", 10), ("out", 0), ("out", 0), ("out", 0)]
        self.assertEqual(self.check(Net(gates, [(0, 1, ()), (1, 2, (1,)), (1, 3, (2,)), (1, 4, (3,))]), 10), 1)
        # Two gates into one: shared is better behind them, none of it is there.
        gates = [("in", 0), ("in", 0), ("sum", 10), ("out", 0)]
        self.assertEqual(self.check(Net(gates, [(0, 2, (1,)), (1, 2, (2,)), (2, 3, ())]), 10), 1)
        # Wires of 0, 2 and 5 registers out of one gate: the ways keep theirs, so it needs 5.
        gates = [("in", 0), ("sum", 10), ("sum", 10), ("out", 0), ("out", 0), ("out", 0)]
        net = Net(gates, [(0, 1, ()), (1, 3, ()), (1, 2, (1, 2)), (2, 4, ()), (1, 5, (1, 2, 3, 4, 5))])
        self.assertEqual([self.check(net, beat) for beat in (10, 19, 20, HUGE)], [5, 5, 5, 5])
        self.assertEqual(fewest(net, 10)[0], 7)

    def test_a_row_in_common_is_better_than_fewest(self):
        gates = [("in", 0), ("sum", 10), ("sum", 10), ("sum", 10), ("sum", 10)]
        net = Net(gates, [(0, 1, ()), (1, 2, ()), (1, 3, ()), (1, 4, ())])
        self.assertEqual((fewest(net, 10)[0], self.check(net, 10)), (3, 1))
        self.assertEqual((fewest(net, 20)[0], self.check(net, 20)), (0, 0))

    def test_one_gate_alone(self):
        for net, beat in ((Net([("sum", 7)], []), 7), (Net([("sum", 7)], []), HUGE), (Net([("in", 0)], []), 0)):
            self.assertEqual(self.check(net, beat), 0)
        self.assertEqual(self.check(Net([("sum", 7)], [(0, 0, (1, 2, 3)), (0, 0, (1,)), (0, 0, (5, 6))]), 7), 3)

    def test_a_wire_that_stands_twice_changes_nothing(self):
        for seed in range(40):
            net = few_registers(seed, 5 + seed % 3, 8 + seed % 4)
            for place in (seed % len(net.wires), seed * 5 % len(net.wires)):
                if net.gates[net.wires[place][1]][0] == "out":
                    continue
                twice = Net(net.gates, net.wires + [net.wires[place]])
                front = Net(net.gates, [net.wires[place]] + net.wires)
                for beat in (least_beat(net)[0], HUGE):
                    many = self.check(net, beat)
                    self.assertEqual((self.check(twice, beat), self.check(front, beat)), (many, many))

    def test_where_one_wire_leads_out_of_each_gate_as_many_as_fewest(self):
        for seed in range(60):
            net = fixed_net(seed, 4 + seed % 6, 9 + seed % 5, 1 + seed % 3)
            kept, left = [], []
            for wire in net.wires:
                (left if wire[0] in [one[0] for one in kept] else kept).append(wire)
            needy = {k for k, (kind, wait) in enumerate(net.gates) if kind in ("out", "first")}
            if needy <= {wire[1] for wire in kept}:
                thin = Net(net.gates, kept)
                for beat in (least_beat(thin)[0], HUGE):
                    self.assertEqual(self.check(thin, beat), fewest(thin, beat)[0])
        for full in range(4):
            gates = [("in", 0), ("sum", 10), ("sum", 10), ("sum", 10), ("out", 0)]
            net = Net(gates, [(k, k + 1, (5, 6) if k == full else ()) for k in range(4)])
            self.assertEqual((self.check(net, 10), fewest(net, 10)[0]), (2, 2))

    def test_against_all_lags(self):
        same = 0
        for seed in range(60):
            net = few_registers(seed, 3 + seed % 3, 5 + seed % 4)
            least = least_beat(net)[0]
            for beat in (least, least + 25, HUGE):
                many = self.check(net, beat)
                there = fewest_by_hand(net, beat, 3, lambda counts: shared_by_hand(net, counts))
                self.assertTrue(there is None or many <= there)
                same += many == there
        self.assertGreater(same, 150)

    def test_against_all_lags_of_nets_with_more_registers(self):
        same = 0
        for seed in range(40):
            net = fixed_net(seed, 4, 7, 3)
            for beat in (least_beat(net)[0], HUGE):
                many = self.check(net, beat)
                there = fewest_by_hand(net, beat, 3, lambda counts: shared_by_hand(net, counts))
                self.assertTrue(there is None or many <= there)
                same += many == there
        self.assertGreater(same, 60)

    def test_at_the_least_beat_and_above(self):
        fewer = 0
        for seed in range(100):
            net = fixed_net(seed, 3 + seed % 7, 6 + seed % 9, 1 + seed % 4)
            least = least_beat(net)[0]
            told = [self.check(net, beat) for beat in (least, least + 1, least + 30, least + 300, HUGE)]
            self.assertEqual(told, sorted(told, reverse=True))
            fewer += told[0] < fewest(net, least)[0]
        self.assertGreater(fewer, 20)

    def test_many_registers(self):
        gates = [("in", 0), ("sum", 4), ("out", 0), ("out", 0), ("sum", 3)]
        wires = [(0, 1, ()), (1, 2, (1,) * 60), (1, 3, (2,) * 70), (1, 4, (3,) * 65)]
        self.assertEqual(self.check(Net(gates, wires), 4), 70)
        self.assertEqual(self.check(Net([SUM] * 3, [(0, 1, (5,) * 100), (0, 2, (5,) * 100)]), 2), 0)
        parts = Net([SUM] * 4 + [("in", 0), ("out", 0)],
                    [(0, 0, (1,) * 60), (0, 1, ()), (2, 2, (1,) * 70), (2, 3, (1,) * 9), (4, 5, (1,) * 50), (4, 1, ())])
        self.assertEqual(self.check(parts, 1), 60 + 70 + 50)

    def test_lags_stay_lags_also_of_slowed_nets(self):
        net = slowed(Net([("in", 0), ("out", 0), SUM, SUM], [(0, 1, (1,) * 150), (2, 3, (2,) * 50)]), 4)
        self.assertEqual(self.check(net, 1), 600 + 1)
        self.assertEqual(self.check(net, 2), 600)

    def test_a_beat_that_has_no_lags(self):
        seen = 0
        for seed in range(40):
            net = few_registers(seed, 3 + seed % 6, 6 + seed % 8)
            least = least_beat(net)[0]
            for beat in {0, least // 2, least - 1} - {-1, least}:
                with self.assertRaises(NoLagsThere) as caught:
                    fewest_shared(net, beat)
                bar = caught.exception.bar
                self.assertTrue(is_bar(net, beat, bar))
                self.assertIsNone(bar_fault(net, beat, bar))
                seen += 1
        self.assertGreater(seen, 40)


class Refused(unittest.TestCase):
    def test_no_beat_ahead_of_all_else(self):
        for beat in no_beats():
            with self.assertRaises(NoBeat):
                fewest_shared(small_net(), beat)
            for thing in (None, [], ([], []), plain_thing(small_net()), ([0, 1], None), "", Net([SUM], [])):
                with self.assertRaises(NoBeat):
                    shared_fault(small_net(), beat, thing)
                with self.assertRaises(NoBeat):
                    shared_bound(small_net(), thing, beat)
        with self.assertRaises(LagError):
            fewest_shared(small_net(), -1)


class Untouched(unittest.TestCase):
    def test_net_lags_and_thing_stand_as_ahead(self):
        net = sample_net()
        things = [plain_thing(net), ([0, 1, 2, 4, 5], [((1, [1]), 5)]), ([5, 0], []), [[0], [None]], ([0, None], [[]])]
        ahead = copy.deepcopy(things)
        faults = [shared_fault(net, 25, thing) for thing in things]
        self.assertEqual([shared_fault(net, 25, thing) for thing in things], faults)
        self.assertEqual(shared_bound(net, things[0], 25), shared_bound(net, things[0], 25))
        for thing in things[1:]:
            with self.assertRaises(NoPaper):
                shared_bound(net, thing, 25)
        self.assertEqual((net, things), (sample_net(), ahead))
        lags = [0, 1, 0, 0, 0]
        self.assertEqual(shared(fan(), lags), shared(fan(), lags))
        self.assertEqual(lags, [0, 1, 0, 0, 0])

    def test_the_same_question_twice(self):
        for seed in range(20):
            net = few_registers(seed, 7, 12)
            for beat in (least_beat(net)[0], HUGE):
                told = fewest_shared(net, beat)
                self.assertEqual(fewest_shared(net, beat), told)
            self.assertEqual(net, few_registers(seed, 7, 12))

    def test_told_lists_are_the_askers_own(self):
        for seed in range(20):
            net = few_registers(seed, 7, 12)
            beat = least_beat(net)[0]
            expected = copy.deepcopy(fewest_shared(net, beat))
            many, lags, (pick, paper) = fewest_shared(net, beat)
            lists = [piece[1] for piece, number in paper]
            self.assertEqual(len({id(one) for one in lists}), len(lists))
            for one in lists + [paper, pick, lags]:
                one.append(3)
            self.assertEqual((net, fewest_shared(net, beat)), (few_registers(seed, 7, 12), expected))


class Bounds(unittest.TestCase):
    def test_greatest_nets_in_a_short_time(self):
        for net in bound_nets() + [fixed_net(seed, 12, 30, 12) for seed in range(10)]:
            least = least_beat(net)[0]
            for beat in (least, least + 1, least + 150, HUGE):
                began = time.monotonic()
                many, lags, thing = fewest_shared(net, beat)
                self.assertEqual((shared_fault(net, beat, thing), shared_bound(net, thing, beat)), (None, many))
                self.assertEqual(shared(net, lags), many)
                self.assertLess(time.monotonic() - began, 3)
                self.assertIs(with_lags(net, lags, beat), True)
                self.assertEqual(bound_by_hand(net, beat, thing[1], thing[0]), many)


class Interface(unittest.TestCase):
    def test_names_and_arguments(self):
        for function, names in ((shared, ["net", "lags"]), (shared_fault, ["net", "beat", "thing"]),
                                (shared_bound, ["net", "thing", "beat"]), (fewest_shared, ["net", "beat"])):
            self.assertEqual(function.__module__, "lagshift.shares")
            self.assertEqual(getattr(module, function.__name__), function)
            self.assertEqual(list(inspect.signature(function).parameters), names)

    def test_by_name_and_in_another_order(self):
        net = small_net()
        self.assertEqual(shared(lags=[0, 0, 0], net=net), 1)
        self.assertIsNone(shared_fault(thing=plain_thing(net), beat=3, net=net))
        self.assertEqual(shared_bound(beat=3, thing=plain_thing(net), net=net), shared_bound(net, plain_thing(net), 3))
        self.assertEqual(fewest_shared(beat=3, net=net), fewest_shared(net, 3))


if __name__ == "__main__":
    unittest.main()
