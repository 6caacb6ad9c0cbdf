"""Fewest: [19], [20], with [2] and [3]."""

import copy
import inspect
import time
import unittest

from lagshift import fewest as module
from lagshift.bars import bar_fault, for_beat, least_beat
from lagshift.errors import LagError, NoBeat, NoLagsThere, NoPaper
from lagshift.fewest import bound_of, fewest, paper_fault
from lagshift.lags import registers
from lagshift.nets import Net
from lagshift.waits import beat_of, with_lags
from tests.slow import all_lags, balance, beat_by, bound_by_hand, fewest_by_hand, is_bar, is_for, moved_counts
from tests.things import (HUGE, bound_nets, few_registers, fixed_net, no_beats, no_pieces, odd_things, sample_net,
                          small_net)

FORM = ("form",)


def plain_paper(net):
    """Each wire for itself, once."""
    return [((start, [place]), 1) for place, (start, end, worths) in enumerate(net.wires)]


def all_places(net):
    return list(range(len(net.wires)))


class Form(unittest.TestCase):
    def form(self, thing):
        for beat in (0, 15, HUGE):
            self.assertEqual(paper_fault(sample_net(), beat, thing), FORM)
            with self.assertRaises(NoPaper):
                bound_of(sample_net(), thing, beat)

    def test_no_list(self):
        paper = plain_paper(sample_net())
        for thing in odd_things() + ["", "paper", 0, 1, HUGE, (), tuple(paper), {0: paper[0]}, sample_net()]:
            self.form(thing)

    def test_an_entry_that_is_no_tuple_of_two(self):
        paper = plain_paper(sample_net())
        for entry in odd_things() + ["", "ab", 0, 1, HUGE, (), ((1, []),), (1, []), [(1, []), 1], ((1, []), 1, 1), [],
                                     (1, [], 1), (1, (1, [])), ([], [])]:
            self.form([entry])
            self.form([entry] + paper)
            self.form(paper + [entry])

    def test_no_piece(self):
        paper = plain_paper(sample_net())
        for piece in no_pieces():
            self.form([(piece, 1)])
            self.form(paper + [(piece, 1)])

    def test_no_number(self):
        for many in odd_things() + [0, -1, -2, -HUGE, "", "1", [], [1], (), (1,)]:
            self.form([((1, []), many)])
            self.form(plain_paper(sample_net()) + [((1, []), many)])

    def test_form_goes_ahead_of_gates(self):
        self.form([((1, [1]), 5), None])
        self.form([None, ((1, [1]), 5)])

    def test_an_empty_list_is_a_paper(self):
        self.assertIsNone(paper_fault(Net([("sum", 7)], []), 0, []))
        self.assertIsNone(paper_fault(Net([("sum", 7)], [(0, 0, (1,))]), 0, []))
        self.assertIsNone(paper_fault(Net([("in", 0), ("out", 0)], [(0, 1, (1,))]), 0, []))
        self.assertEqual(paper_fault(Net([("in", 0), ("sum", 1)], [(0, 1, (1,))]), 0, []), ("gate", 1))
        self.assertEqual(bound_of(Net([("in", 0), ("out", 0)], [(0, 1, (1, 2))]), [], 0), 2)


class Gate(unittest.TestCase):
    def test_by_hand(self):
        net = Net([("in", 0), ("sum", 1), ("sum", 1), ("sum", 1), ("out", 0)],
                  [(0, 1, ()), (1, 2, ()), (1, 3, (1,)), (2, 4, (2,)), (3, 3, (4,))])
        # Gate 1 has one more out than in, gate 2 none, gate 3 one fewer.
        for thing, fault in (([], ("gate", 1)),
                             ([((1, [2]), 1)], None),
                             ([((1, []), 7), ((1, [2]), 1)], None),
                             ([((1, [1]), 1)], ("gate", 2)),
                             ([((1, [2]), 2)], ("gate", 1)),
                             ([((1, [2]), 1), ((2, [3]), 1)], ("gate", 2)),
                             ([((0, [0, 1, 3]), 4), ((1, [2]), 1)], None),
                             ([((0, [0, 2]), 1), ((1, [1, 3]), 1)], None),
                             ([((0, [0, 2]), 1)], ("gate", 1)),
                             ([((1, [1, 3]), 1)], ("gate", 3)),
                             ([((1, [2, 4, 4]), 1), ((3, [4]), HUGE)], None),
                             ([((1, [2]), 1), ((0, [0]), 1), ((1, [1]), 1), ((2, [3]), 1)], None),
                             ([((1, [2]), 1), ((0, [0]), 1), ((1, [1]), 1), ((2, [3]), 2)], ("gate", 2)),
                             ([((0, [0]), 1), ((1, [2]), 2)], ("gate", 3)),
                             ([((0, []), 3), ((4, []), 5), ((1, [2]), 1)], None)):
            for beat in (0, 1, 2, HUGE):
                self.assertEqual(paper_fault(net, beat, thing), fault, thing)

    def test_the_first_such_gate(self):
        net = Net([("out", 0), ("sum", 1), ("sum", 1), ("in", 0), ("sum", 1)],
                  [(1, 0, ()), (3, 1, ()), (3, 2, ()), (3, 4, ())])
        self.assertEqual(paper_fault(net, 5, []), ("gate", 2))
        self.assertEqual(paper_fault(net, 5, [((3, [3]), 1)]), ("gate", 2))
        self.assertEqual(paper_fault(net, 5, [((3, [2]), 1)]), ("gate", 4))
        self.assertEqual(paper_fault(net, 5, [((3, [1]), 1)]), ("gate", 1))
        self.assertIsNone(paper_fault(net, 5, [((3, [2]), 1), ((3, [3]), 1)]))

    def test_each_wire_for_itself_is_without_fault(self):
        for seed in range(40):
            net = fixed_net(seed)
            self.assertIsNone(paper_fault(net, seed, plain_paper(net)))

    def test_a_piece_that_ends_where_it_begins_changes_nothing(self):
        net = sample_net()
        for piece in ((1, []), (1, [6]), (1, [6, 6]), (1, [1, 3]), (2, [3, 1])):
            self.assertIsNone(paper_fault(net, 0, plain_paper(net) + [(piece, 9)]))
            self.assertEqual(paper_fault(net, 0, plain_paper(net)[1:] + [(piece, 9)]), ("gate", 1))

    def test_against_the_slow_way(self):
        faults = 0
        for seed in range(200):
            net = fixed_net(seed, 3 + seed % 6, 6 + seed % 9, 1 + seed % 3)
            paper = plain_paper(net)
            # Left out is one wire, and one is put to another number.
            paper[seed % len(paper)] = (paper[seed % len(paper)][0], 1 + seed % 3)
            if seed % 5 > 1:
                del paper[(seed * 7) % len(paper)]
            wrong = [k for k, (kind, wait) in enumerate(net.gates)
                     if kind not in ("in", "out") and balance(net, k, paper, all_places(net)) != 0]
            self.assertEqual(paper_fault(net, 9, paper), ("gate", wrong[0]) if wrong else None)
            faults += bool(wrong)
        self.assertTrue(50 < faults < 190)

    def test_kinds(self):
        fault = paper_fault(sample_net(), 0, [((1, [1]), 1)])
        self.assertEqual((type(fault), type(fault[0]), type(fault[1])), (tuple, str, int))


class BoundOf(unittest.TestCase):
    NET = Net([("in", 0), ("sum", 10), ("sum", 20), ("out", 0)],
              [(0, 1, (1, 2)), (0, 1, (3, 4, 5)), (1, 2, ()), (2, 3, (7,))])

    def test_by_hand(self):
        # Gate 1 has two wires in and one out: one more piece must end than begin there.
        for thing, beat, bound in (([((0, [0]), 1)], 10, 4), ([((0, [0]), 1)], 9, 5), ([((0, [1]), 1)], 10, 3),
                                   ([((0, [0]), 2), ((1, [2, 3]), 1)], 30, 1),
                                   ([((0, [0]), 2), ((1, [2, 3]), 1)], 29, 2),
                                   ([((0, [0]), 2), ((1, [2, 3]), 1)], 9, 4),
                                   ([((0, [0]), 2), ((1, [2]), 1), ((2, [3]), 1)], 29, 2),
                                   ([((0, [0]), 2), ((1, [2]), 1), ((2, [3]), 1)], 19, 3),
                                   ([((0, [0]), 1), ((0, [0, 2, 3]), 4)], 30, -8),
                                   ([((0, [0]), 1), ((0, [0, 2, 3]), 4)], 29, -4),
                                   ([((0, [0]), 1), ((1, []), 100)], 9, 105),
                                   ([((0, [0]), 1), ((1, []), HUGE)], 10, 4)):
            self.assertEqual(bound_of(self.NET, thing, beat), bound, (thing, beat))

    def test_registers_as_often_as_come_by(self):
        net = Net([("sum", 5)], [(0, 0, (1, 2))])
        self.assertEqual(bound_of(net, [((0, [0, 0]), 3)], 15), 2 - 3 * 4)
        self.assertEqual(bound_of(net, [((0, [0, 0]), 3)], 14), 2 - 3 * 3)
        self.assertEqual(bound_of(net, [], 0), 2)

    def test_no_paper_of_what_has_a_fault(self):
        for thing in ([], [((0, [0]), 2)], [((1, [2, 3]), 1)], None, ()):
            with self.assertRaises(NoPaper):
                bound_of(self.NET, thing, 10)
        with self.assertRaises(LagError):
            bound_of(self.NET, [], 10)

    def test_against_the_slow_way(self):
        for seed in range(60):
            net = fixed_net(seed, 3 + seed % 6, 6 + seed % 9, 1 + seed % 3)
            for beat in (0, 40, 90, 150, HUGE):
                told = bound_of(net, plain_paper(net), beat)
                self.assertEqual((told, type(told)), (bound_by_hand(net, beat, plain_paper(net), all_places(net)), int))

    def test_no_lags_for_the_beat_have_fewer(self):
        for seed in range(30):
            net = few_registers(seed, 4 + seed % 2, 7)
            for beat in (least_beat(net)[0], beat_of(net)):
                bound = bound_of(net, plain_paper(net), beat)
                for lags in all_lags(net, 2):
                    if with_lags(net, lags, beat):
                        self.assertGreaterEqual(sum(moved_counts(net, lags)), bound)


class Fewest(unittest.TestCase):
    def check(self, net, beat):
        """The number told, where lags and paper are seen to be right."""
        told = fewest(net, beat)
        self.assertEqual((type(told), len(told)), (tuple, 3))
        many, lags, paper = told
        self.assertEqual((type(many), type(lags), type(paper)), (int, list, list))
        self.assertTrue(is_for(net, lags, beat), (lags, beat))
        self.assertEqual(sum(moved_counts(net, lags)), many)
        self.assertEqual(bound_by_hand(net, beat, paper, all_places(net)), many)
        self.assertIsNone(paper_fault(net, beat, paper))
        self.assertEqual(bound_of(net, paper, beat), many)
        self.assertIs(with_lags(net, lags, beat), True)
        return many

    def test_by_hand(self):
        net = Net([("in", 0), ("in", 0), ("sum", 10), ("sum", 20), ("out", 0)],
                  [(0, 2, (1, 2, 3)), (1, 2, (4, 5)), (2, 3, ()), (3, 4, (7,))])
        self.assertEqual([self.check(net, beat) for beat in (20, 29, 30, HUGE)], [4, 4, 4, 4])
        net = Net([("in", 0), ("sum", 10), ("sum", 20), ("sum", 5), ("out", 0)],
                  [(0, 1, ()), (1, 2, ()), (1, 3, ()), (2, 4, (7,)), (3, 3, (1, 2))])
        # Below 30 wire 1 needs a register, from the wire behind gate 2; the ring of gate 3 keeps its two.
        self.assertEqual([self.check(net, beat) for beat in (20, 29, 30, 35, HUGE)], [3, 3, 3, 3, 3])
        net = Net([("in", 0), ("sum", 10), ("sum", 10), ("sum", 10), ("sum", 10)],
                  [(0, 1, ()), (1, 2, ()), (1, 3, ()), (2, 4, ()), (3, 4, ())])
        self.assertEqual([self.check(net, beat) for beat in (10, 19, 20, 29, 30, HUGE)], [4, 4, 2, 2, 0, 0])

    def test_one_gate_without_wires(self):
        for net, beat in ((Net([("sum", 7)], []), 7), (Net([("sum", 7)], []), HUGE), (Net([("in", 0)], []), 0),
                          (Net([("one", 0)], []), 0)):
            self.assertEqual(self.check(net, beat), 0)

    def test_a_wire_from_a_gate_to_itself(self):
        self.assertEqual(self.check(Net([("sum", 7)], [(0, 0, (1, 2, 3))]), 7), 3)
        self.assertEqual(self.check(small_net(), 3), 1)

    def test_from_an_in_straight_to_an_out(self):
        self.assertEqual(self.check(Net([("in", 0), ("out", 0)], [(0, 1, (1, 2, 3))]), 0), 3)
        self.assertEqual(self.check(Net([("in", 0), ("out", 0), ("out", 0)], [(0, 1, (1, 2, 3)), (0, 2, ())]), 0), 3)

    def test_registers_before_and_behind(self):
        gates = [("in", 0), ("in", 0), ("in", 0), ("sum", 4), ("out", 0)]
        wires = [(0, 3, (1,) * 60), (1, 3, (2,) * 70), (2, 3, (3,) * 65), (3, 4, ())]
        self.assertEqual(self.check(Net(gates, wires), 4), 60 + 10 + 5)
        gates = [("in", 0), ("sum", 4), ("out", 0), ("out", 0), ("out", 0)]
        wires = [(0, 1, ()), (1, 2, (1,) * 60), (1, 3, (2,) * 70), (1, 4, (3,) * 65)]
        self.assertEqual(self.check(Net(gates, wires), 4), 60 + 10 + 5)

    def test_two_hundred_registers_that_no_one_needs(self):
        net = Net([("sum", 1)] * 12, [(k, k + 1, (5,) * 18) for k in range(11)])
        self.assertEqual(self.check(net, 1), 11)
        self.assertEqual(self.check(net, 12), 0)
        net = Net([("sum", 1)] * 3, [(0, 1, (5,) * 100), (2, 1, (5,) * 100)])
        self.assertEqual(self.check(net, 2), 0)
        net = Net([("in", 0), ("sum", 1)], [(0, 1, (5,) * 200)])
        self.assertEqual(self.check(net, 1), 0)
        net = Net([("out", 0), ("sum", 1)], [(1, 0, (5,) * 200)])
        self.assertEqual(self.check(net, 1), 0)

    def test_at_the_least_beat_and_above(self):
        fewer = 0
        for seed in range(100):
            net = fixed_net(seed, 3 + seed % 7, 6 + seed % 9, 1 + seed % 4)
            least = least_beat(net)[0]
            told = [self.check(net, beat) for beat in (least, least + 1, least + 30, least + 300, HUGE)]
            self.assertEqual(told, sorted(told, reverse=True))
            self.assertLessEqual(told[-1], registers(net))
            if beat_of(net) == least:
                self.assertLessEqual(told[0], registers(net))
            fewer += told[0] > told[-1]
        self.assertGreater(fewer, 10)

    def test_against_all_lags(self):
        for seed in range(60):
            net = few_registers(seed, 3 + seed % 3, 5 + seed % 3)
            least = least_beat(net)[0]
            for beat in (least, least + 25, HUGE):
                many = self.check(net, beat)
                there = fewest_by_hand(net, beat, 3)
                if there is not None:
                    self.assertLessEqual(many, there)
                if max(map(abs, fewest(net, beat)[1])) <= 3:
                    self.assertEqual(many, there)

    def test_against_all_lags_of_nets_with_more_registers(self):
        same = 0
        for seed in range(40):
            net = fixed_net(seed, 4, 6, 3)
            least = least_beat(net)[0]
            for beat in (least, HUGE):
                many, there = self.check(net, beat), fewest_by_hand(net, beat, 3)
                self.assertTrue(there is None or many <= there)
                same += many == there
        self.assertGreater(same, 60)

    def test_nets_without_ins_and_outs_and_in_parts(self):
        parts = Net([("sum", 5), ("sum", 6), ("in", 0), ("sum", 7), ("sum", 8), ("out", 0)],
                    [(0, 1, (1, 1)), (1, 0, (1,)), (0, 1, (1, 2, 3, 4)), (3, 4, (9, 9)), (4, 5, ()), (2, 5, ())][:5])
        for beat in (8, 11, 15, HUGE):
            self.assertEqual(self.check(parts, beat), fewest_by_hand(parts, beat, 4))

    def test_the_beat_of_the_lags_told(self):
        for seed in range(40):
            net = few_registers(seed, 7, 12)
            beat = least_beat(net)[0]
            self.assertLessEqual(beat_by(net, moved_counts(net, fewest(net, beat)[1])), beat)

    def test_a_beat_that_has_no_lags(self):
        seen = 0
        for seed in range(60):
            net = few_registers(seed, 3 + seed % 6, 6 + seed % 8)
            least = least_beat(net)[0]
            for beat in {0, least // 2, least - 1} - {-1, least}:
                with self.assertRaises(NoLagsThere) as caught:
                    fewest(net, beat)
                bar = caught.exception.bar
                self.assertTrue(is_bar(net, beat, bar))
                self.assertIsNone(bar_fault(net, beat, bar))
                self.assertEqual(for_beat(net, beat)[0], "bar")
                seen += 1
        self.assertGreater(seen, 60)
        with self.assertRaises(NoLagsThere) as caught:
            fewest(Net([("sum", 7)], []), 6)
        self.assertEqual({piece[0] for piece in caught.exception.bar}, {0})
        self.assertIsInstance(caught.exception, LagError)


class Refused(unittest.TestCase):
    def test_no_beat_ahead_of_all_else(self):
        for beat in no_beats():
            with self.assertRaises(NoBeat):
                fewest(small_net(), beat)
            for thing in (None, [], [((1, []), 1)], plain_paper(small_net()), Net([("sum", 1)], []), [None], ""):
                with self.assertRaises(NoBeat):
                    paper_fault(small_net(), beat, thing)
                with self.assertRaises(NoBeat):
                    bound_of(small_net(), thing, beat)

    def test_is_a_lag_error(self):
        for error in (LagError, ValueError):
            with self.assertRaises(error):
                fewest(small_net(), -1)


class Untouched(unittest.TestCase):
    def test_net_and_thing_stand_as_ahead(self):
        net = sample_net()
        things = [plain_paper(net), [((1, [1]), 5), None], [], [((1, [1]), 5)], [[((1, []), 1)]]]
        ahead = copy.deepcopy(things)
        for thing in things:
            fault = paper_fault(net, 25, thing)
            self.assertEqual(paper_fault(net, 25, thing), fault)
            if fault is None:
                self.assertEqual(bound_of(net, thing, 25), bound_of(net, thing, 25))
            else:
                with self.assertRaises(NoPaper):
                    bound_of(net, thing, 25)
        self.assertEqual((net, things), (sample_net(), ahead))

    def test_the_same_question_twice(self):
        for seed in range(20):
            net = few_registers(seed, 7, 12)
            for beat in (least_beat(net)[0], HUGE):
                told = fewest(net, beat)
                self.assertEqual(fewest(net, beat), told)
            self.assertEqual(net, few_registers(seed, 7, 12))

    def test_told_lists_are_the_askers_own(self):
        for seed in range(20):
            net = few_registers(seed, 7, 12)
            beat = least_beat(net)[0]
            expected = copy.deepcopy(fewest(net, beat))
            many, lags, paper = fewest(net, beat)
            lists = [piece[1] for piece, number in paper]
            self.assertEqual(len({id(one) for one in lists}), len(lists))
            for one in lists:
                one.append(3)
            paper.clear()
            lags.clear()
            self.assertEqual((net, fewest(net, beat)), (few_registers(seed, 7, 12), expected))
            if beat > 0:
                with self.assertRaises(NoLagsThere) as caught:
                    fewest(net, beat - 1)
                caught.exception.bar.clear()
                with self.assertRaises(NoLagsThere) as caught:
                    fewest(net, beat - 1)
                self.assertNotEqual(caught.exception.bar, [])


class Bounds(unittest.TestCase):
    def test_greatest_nets_in_a_short_time(self):
        for net in bound_nets():
            least = least_beat(net)[0]
            for beat in (least, least + 1, least + 150, HUGE):
                began = time.monotonic()
                many, lags, paper = fewest(net, beat)
                self.assertEqual((paper_fault(net, beat, paper), bound_of(net, paper, beat)), (None, many))
                self.assertLess(time.monotonic() - began, 3)
                self.assertIs(with_lags(net, lags, beat), True)
                self.assertEqual(sum(moved_counts(net, lags)), many)
                self.assertEqual(bound_by_hand(net, beat, paper, all_places(net)), many)

    def test_many_registers_over_nets_at_the_bounds(self):
        for seed in range(15):
            net = fixed_net(seed, 12, 30, 12)
            least = least_beat(net)[0]
            for beat in (least, HUGE):
                began = time.monotonic()
                many, lags, paper = fewest(net, beat)
                self.assertLess(time.monotonic() - began, 3)
                self.assertEqual(bound_by_hand(net, beat, paper, all_places(net)), many)
                self.assertIs(with_lags(net, lags, beat), True)
                self.assertEqual(sum(moved_counts(net, lags)), many)

    def test_a_paper_with_numbers_of_sixty_figures(self):
        net = Net([("sum", 5)], [(0, 0, (1,))])
        self.assertEqual(bound_of(net, [((0, []), HUGE)], 4), 1 + HUGE)
        self.assertEqual(bound_of(net, [((0, [0]), HUGE)], 10), 1 - HUGE)
        self.assertEqual(bound_of(net, [((0, []), 1)] * 5000, 4), 5001)


class Interface(unittest.TestCase):
    def test_names_and_arguments(self):
        for function, names in ((paper_fault, ["net", "beat", "thing"]), (bound_of, ["net", "thing", "beat"]),
                                (fewest, ["net", "beat"])):
            self.assertEqual(function.__module__, "lagshift.fewest")
            self.assertEqual(getattr(module, function.__name__), function)
            self.assertEqual(list(inspect.signature(function).parameters), names)

    def test_by_name_and_in_another_order(self):
        net = small_net()
        self.assertIsNone(paper_fault(thing=plain_paper(net), beat=3, net=net))
        self.assertEqual(bound_of(beat=3, thing=plain_paper(net), net=net), bound_of(net, plain_paper(net), 3))
        self.assertEqual(fewest(beat=3, net=net), fewest(net, 3))


if __name__ == "__main__":
    unittest.main()
