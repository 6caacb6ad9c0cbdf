"""The whole: [1] and each sentence of [3], over all modules together; with [2] and the interface."""

import copy
import importlib
import inspect
import time
import unittest

from lagshift.bars import bar_fault, for_beat, least_beat
from lagshift.beats import run
from lagshift.errors import LagError
from lagshift.fewest import bound_of, fewest, paper_fault
from lagshift.forms import lags_to, loop_fault
from lagshift.lags import are_let, counts, registers
from lagshift.moves import moved
from lagshift.nets import Net
from lagshift.rings import loads, rings, slowest
from lagshift.shares import fewest_shared, shared, shared_bound, shared_fault
from lagshift.steps import steps, steps_fault
from lagshift.streams import parted, slowed, woven
from lagshift.texts import lags_text, net_text, read_lags, read_net
from lagshift.waits import beat_of, between, longest, with_lags
from tests.slow import held, is_bar, is_for, moved_counts
from tests.things import (bound_nets, by_turns, fixed_net, fixed_rows, let_lags, like, sample_net, small_net,
                          with_registers)

FUNCTIONS = {
    "beats": {"worths": ["net", "row"], "beat": ["net", "row"], "run": ["net", "rows"]},
    "lags": {"counts": ["net", "lags"], "are_let": ["net", "lags"], "registers": ["net"]},
    "waits": {"beat_of": ["net"], "longest": ["net"], "with_lags": ["net", "lags", "beat"], "between": ["net"]},
    "bars": {"bar_fault": ["net", "beat", "thing"], "for_beat": ["net", "beat"], "least_beat": ["net"]},
    "rings": {"rings": ["net"], "loads": ["net"], "slowest": ["net"]},
    "moves": {"moved": ["net", "lags", "rows"]},
    "fewest": {"paper_fault": ["net", "beat", "thing"], "bound_of": ["net", "thing", "beat"],
               "fewest": ["net", "beat"]},
    "streams": {"woven": ["nets"], "slowed": ["net", "k"], "parted": ["net", "k"]},
    "texts": {"net_text": ["net"], "lags_text": ["lags"], "read_net": ["text"], "read_lags": ["text"]},
    "steps": {"steps": ["net", "lags"], "steps_fault": ["net", "lags", "thing"]},
    "shares": {"shared": ["net", "lags"], "shared_bound": ["net", "thing", "beat"],
               "shared_fault": ["net", "beat", "thing"], "fewest_shared": ["net", "beat"]},
    "forms": {"lags_to": ["net", "other"], "loop_fault": ["net", "other", "thing"]},
}
LIKELY = {
    "net": small_net, "other": small_net, "nets": lambda: [small_net(), small_net()], "row": lambda: [4],
    "rows": lambda: [[4], [5]], "lags": lambda: [0, 0, 0], "beat": lambda: 3, "thing": lambda: [], "k": lambda: 1,
    "text": lambda: "0 1 -2",
}


def drawn(seed):
    """Nets of many sizes, some with few registers and some with many."""
    return fixed_net(seed, 3 + seed % 10, 5 + seed % 20, 1 + seed % 4)


def functions():
    """Each function of the interface, with the names of its arguments."""
    for file, names in FUNCTIONS.items():
        for name, arguments in names.items():
            yield getattr(importlib.import_module("lagshift." + file), name), arguments


class Moved(unittest.TestCase):
    def test_the_moved_net_tells_the_same_from_then_on(self):
        for seed in range(100):
            net = drawn(seed)
            for lags in (let_lags(seed, net), least_beat(net)[1], fewest(net, least_beat(net)[0])[1],
                         fewest_shared(net, beat_of(net))[1]):
                rows = fixed_rows(seed, net, max(0, max(lags)) + seed % 2)
                told, outs = moved(net, lags, rows)
                behind = fixed_rows(seed + 1, net, 8)
                self.assertEqual(outs + run(told, behind)[1], run(net, rows + behind)[1])

    def test_whatever_is_put_in(self):
        net = drawn(7)
        lags = let_lags(7, net)
        rows = fixed_rows(7, net, max(0, max(lags)))
        told = moved(net, lags, rows)[0]
        first = run(net, rows)[0]
        for seed in range(30):
            behind = fixed_rows(seed * 3, net, 6)
            self.assertEqual(run(told, behind)[1], run(first, behind)[1])


class LagsOrABar(unittest.TestCase):
    def test_at_each_beat_near_the_least_one(self):
        for seed in range(60):
            net = drawn(seed)
            least, lags = least_beat(net)
            self.assertTrue(is_for(net, lags, least))
            for beat in range(max(0, least - 3), least + 4):
                kind, told = for_beat(net, beat)
                if kind == "lags":
                    self.assertTrue(is_for(net, told, beat))
                    self.assertIs(with_lags(net, told, beat), True)
                else:
                    self.assertTrue(is_bar(net, beat, told))
                    self.assertIsNone(bar_fault(net, beat, told))
                    # What bars this beat bars no beat that has lags.
                    self.assertEqual(bar_fault(net, least, told)[0], "sum")
                self.assertEqual(kind, "lags" if beat >= least else "bar")

    def test_the_least_beat_is_that_of_the_moved_net(self):
        for seed in range(60):
            net = drawn(seed)
            least, lags = least_beat(net)
            told = moved(net, lags, fixed_rows(seed, net, max(0, max(lags))))[0]
            self.assertEqual(beat_of(told), least)
            self.assertEqual(least_beat(told)[0], least)

    def test_lags_do_not_change_the_least_beat(self):
        for seed in range(40):
            net = drawn(seed)
            lags = let_lags(seed, net)
            told = moved(net, lags, fixed_rows(seed, net, max(0, max(lags))))[0]
            self.assertEqual(least_beat(told)[0], least_beat(net)[0])


class FewestAndPapers(unittest.TestCase):
    def test_a_papers_bound_is_never_above_what_lags_leave(self):
        for seed in range(60):
            net = drawn(seed)
            for beat in (least_beat(net)[0], beat_of(net), beat_of(net) + 50):
                many, lags, paper = fewest(net, beat)
                few, other, thing = fewest_shared(net, beat)
                self.assertEqual((paper_fault(net, beat, paper), shared_fault(net, beat, thing)), (None, None))
                self.assertEqual((sum(counts(net, lags)), bound_of(net, paper, beat)), (many, many))
                self.assertEqual((shared(net, other), shared_bound(net, thing, beat)), (few, few))
                for others in (lags, other, for_beat(net, beat)[1], least_beat(net)[1], let_lags(seed, net)):
                    if with_lags(net, others, beat):
                        self.assertGreaterEqual(sum(counts(net, others)), many)
                        self.assertGreaterEqual(shared(net, others), few)
                        self.assertGreaterEqual(sum(counts(net, others)), shared(net, others))

    def test_a_paper_for_a_beat_is_one_for_each_lesser_beat(self):
        for seed in range(40):
            net = drawn(seed)
            least = least_beat(net)[0]
            many, lags, paper = fewest(net, least + 20)
            self.assertIsNone(paper_fault(net, least, paper))
            self.assertGreaterEqual(bound_of(net, paper, least), many)
            self.assertLessEqual(bound_of(net, paper, least), fewest(net, least)[0])

    def test_the_fewest_are_the_same_from_a_moved_net(self):
        for seed in range(40):
            net = drawn(seed)
            lags = let_lags(seed, net)
            told = moved(net, lags, fixed_rows(seed, net, max(0, max(lags))))[0]
            for beat in (least_beat(net)[0], beat_of(net)):
                self.assertEqual(fewest(told, beat)[0], fewest(net, beat)[0])
                self.assertEqual(fewest_shared(told, beat)[0], fewest_shared(net, beat)[0])

    def test_the_moved_net_has_so_many_registers(self):
        for seed in range(40):
            net = drawn(seed)
            many, lags, paper = fewest(net, least_beat(net)[0])
            told = moved(net, lags, fixed_rows(seed, net, max(0, max(lags))))[0]
            self.assertEqual(registers(told), many)
            self.assertLessEqual(beat_of(told), least_beat(net)[0])


class Rings(unittest.TestCase):
    def test_each_ring_keeps_its_registers_and_bounds_the_beat(self):
        seen = 0
        for seed in range(60):
            net = fixed_net(seed, 3 + seed % 6, 5 + seed % 8, 1 + seed % 3)
            lags = let_lags(seed, net)
            told = moved(net, lags, fixed_rows(seed, net, max(0, max(lags))))[0]
            self.assertEqual((rings(told), loads(told)), (rings(net), loads(net)))
            for wait, many in loads(net):
                self.assertGreaterEqual(least_beat(net)[0] * many, wait)
                self.assertGreaterEqual(beat_of(told) * many, wait)
                seen += 1
            self.assertEqual(slowest(told) is None, not rings(net))
        self.assertGreater(seen, 100)


class Woven(unittest.TestCase):
    def test_stream_by_stream_what_each_tells_alone(self):
        for seed in range(60):
            net = drawn(seed)
            many = 1 + seed % 4
            nets = [like(net, seed + k) for k in range(many)]
            rows = [fixed_rows(seed + 50 * k, net, 5) for k in range(many)]
            alone = [run(one, own) for one, own in zip(nets, rows)]
            behind, outs = run(woven(nets), by_turns(rows))
            self.assertEqual(outs, by_turns([told for one, told in alone]))
            self.assertEqual(parted(behind, many), [one for one, told in alone])

    def test_woven_nets_have_a_beat_no_greater(self):
        for seed in range(30):
            net = drawn(seed)
            beats = [least_beat(slowed(net, k))[0] for k in (1, 2, 3, 4)]
            self.assertLessEqual(max(beats), beats[0])
            self.assertLessEqual(beats[3], beats[1])


class StepsAndForms(unittest.TestCase):
    def test_steps_that_are_all_let(self):
        for seed in range(80):
            net = drawn(seed)
            for lags in (let_lags(seed, net), least_beat(net)[1]):
                told = steps(net, lags)
                self.assertIsNone(steps_fault(net, lags, told))
                self.assertEqual(len(told), sum(map(abs, lags)))
                now = [0] * len(lags)
                for gate, way in told:
                    now[gate] += way
                    self.assertIs(are_let(net, now), True)
                self.assertEqual(now, lags)

    def test_lags_or_a_loop(self):
        kinds = []
        for seed in range(120):
            net = drawn(seed)
            lags = let_lags(seed, net)
            many = moved_counts(net, lags)
            many[seed % len(many)] += seed % 2
            other = with_registers(net, many)
            kind, told = lags_to(net, other)
            if kind == "lags":
                self.assertEqual(counts(net, told), held(other))
                self.assertIsNone(steps_fault(net, told, steps(net, told)))
            else:
                self.assertIsNone(loop_fault(net, other, told))
                self.assertEqual(loop_fault(net, net, told)[0], "sum")
            kinds.append(kind)
            if seed % 2 == 0:
                self.assertEqual(kind, "lags")
        self.assertGreater(kinds.count("loop"), 30)

    def test_the_moved_net_is_of_the_form(self):
        for seed in range(40):
            net = drawn(seed)
            lags = least_beat(net)[1]
            told = moved(net, lags, fixed_rows(seed, net, max(0, max(lags))))[0]
            kind, found = lags_to(net, told)
            self.assertEqual((kind, counts(net, found)), ("lags", held(told)))


class AWayThroughTheWhole(unittest.TestCase):
    def go(self, net, seed, many):
        nets = [read_net(net_text(like(net, seed + k))) for k in range(many)]
        whole = woven(nets)
        beat, lags = least_beat(whole)
        lags = read_lags(lags_text(lags))
        # As many rows for each stream as make enough of them together.
        needed = max(0, max(lags))
        each = (needed + many - 1) // many
        rows = [fixed_rows(seed + 9 * k, net, each + 6) for k in range(many)]
        ahead, behind = by_turns([own[:each] for own in rows]) if each else [], by_turns([own[each:] for own in rows])
        told, outs = moved(whole, lags, ahead)
        self.assertEqual(beat_of(told), beat)
        again = read_net(net_text(told))
        self.assertEqual(again, told)
        outs = outs + run(again, behind)[1]
        alone = [run(one, own)[1] for one, own in zip(nets, rows)]
        self.assertEqual([outs[k::many] for k in range(many)], alone)
        return beat < beat_of(whole)

    def test_stream_by_stream(self):
        faster = 0
        for seed in range(60):
            faster += self.go(drawn(seed), seed, 1 + seed % 4)
        self.assertGreater(faster, 20)

    def test_by_hand(self):
        text = "gate in 0\ngate sum 3\ngate most 4\ngate sum 5\ngate out 0\n" \
               "wire 0 1\nwire 1 2\nwire 2 3\nwire 3 4 7\nwire 3 1 8 9"
        first = read_net(text)
        self.assertEqual((beat_of(first), least_beat(first)[0]), (12, 7))
        whole = woven([first, read_net(text.replace("3 1 8 9", "3 1 1 2"))])
        beat, lags = least_beat(whole)
        self.assertEqual((beat, with_lags(whole, lags, 5)), (5, True))
        self.assertTrue(self.go(first, 1, 2))


class Untouched(unittest.TestCase):
    def test_nothing_that_is_handed_in_is_changed(self):
        for function, arguments in functions():
            things = {name: LIKELY[name]() for name in arguments}
            if function.__name__ == "read_net":
                things = {"text": net_text(small_net())}
            ahead = copy.deepcopy(things)
            told = function(**things) if function.__name__ not in ("bound_of", "shared_bound") else None
            self.assertEqual(things, ahead, function)
            if told is not None:
                self.assertEqual(function(**things), told, function)

    def test_a_net_that_was_asked_everything_stands_as_ahead(self):
        net = sample_net()
        beat, lags = least_beat(net)
        rows = fixed_rows(1, net, max(0, max(lags)))
        run(net, rows), moved(net, lags, rows), longest(net), between(net), rings(net), slowest(net)
        fewest(net, beat), fewest_shared(net, beat), steps(net, lags), lags_to(net, net), slowed(net, 2), net_text(net)
        self.assertEqual(net, sample_net())


class Interface(unittest.TestCase):
    def test_each_function_stands_in_its_file_with_its_arguments(self):
        for function, arguments in functions():
            self.assertEqual(list(inspect.signature(function).parameters), arguments, function)
        for file, names in FUNCTIONS.items():
            for name in names:
                function = getattr(importlib.import_module("lagshift." + file), name)
                self.assertTrue(inspect.isfunction(function))
                self.assertEqual((function.__module__, function.__name__), ("lagshift." + file, name))

    def test_by_name_in_another_order(self):
        for function, arguments in functions():
            things = {name: LIKELY[name]() for name in arguments}
            if function.__name__ == "read_net":
                things = {"text": net_text(small_net())}
            told = []
            for ask in (lambda: function(*things.values()), lambda: function(**dict(reversed(list(things.items()))))):
                try:
                    told.append(ask())
                except LagError as refusal:
                    told.append(type(refusal))
            self.assertEqual(told[0], told[1], function)

    def test_the_net_has_its_methods_itself(self):
        for name in ("__init__", "ins", "outs", "__eq__"):
            self.assertIn(name, vars(Net))
        self.assertEqual((vars(small_net()).keys() >= {"gates", "wires"}, Net.__module__), (True, "lagshift.nets"))


class Bounds(unittest.TestCase):
    def test_a_way_through_the_whole_in_a_short_time(self):
        way = AWayThroughTheWhole()
        for at, net in enumerate(bound_nets()):
            began = time.monotonic()
            way.go(net, at, 1 + at % 2)
            self.assertLess(time.monotonic() - began, 5)


if __name__ == "__main__":
    unittest.main()
