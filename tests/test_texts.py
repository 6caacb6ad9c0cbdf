"""Texts: [23], with [2]."""

import inspect
import time
import unittest

from lagshift import texts as module
from lagshift.errors import LagError, NoLags, NoText
from lagshift.nets import Net
from lagshift.texts import lags_text, net_text, read_lags, read_net
from tests.things import HUGE, bound_nets, fixed_net, odd_things, small_net

SMALL = "gate in 0\ngate sum 3\ngate out 0\nwire 0 1\nwire 1 1 5\nwire 1 2"
NO_TEXT = odd_things() + [0, 1, -1, HUGE, [], ["gate sum 1"], ("gate sum 1",), (), [0], b"gate sum 1", b"0 1"]


class NetText(unittest.TestCase):
    def check(self, net, text):
        self.assertEqual((net_text(net), type(net_text(net))), (text, str))
        told = read_net(text)
        self.assertEqual((told, type(told)), (net, Net))
        self.assertEqual(net_text(told), text)

    def test_by_hand(self):
        self.check(small_net(), SMALL)
        self.check(Net([("sum", 0)], []), "gate sum 0")
        self.check(Net([("in", 0)], []), "gate in 0")
        self.check(Net([("sum", 100), ("times", 10)], [(0, 1, ())]), "gate sum 100\ngate times 10\nwire 0 1")
        self.check(Net([("one", 7)], [(0, 0, (0, 96, 10)), (0, 0, (1,))]), "gate one 7\nwire 0 0 0 96 10\nwire 0 0 1")

    def test_every_kind(self):
        kinds = ["in", "out", "sum", "times", "most", "least", "first", "one"]
        gates = [(kind, 0 if k < 2 else 10 * k) for k, kind in enumerate(kinds)]
        rows = ["gate in 0", "gate out 0", "gate sum 20", "gate times 30", "gate most 40", "gate least 50",
                "gate first 60", "gate one 70"]
        self.check(Net(gates, [(0, 1, (3, 4)), (2, 6, ())]), "\n".join(rows + ["wire 0 1 3 4", "wire 2 6"]))
        for kind in kinds[2:]:
            if kind != "first":
                self.check(Net([(kind, 5)], []), f"gate {kind} 5")

    def test_numbers_of_two_figures(self):
        gates = [("sum", k) for k in range(12)]
        rows = [f"gate sum {k}" for k in range(12)]
        rows += ["wire 11 10 10 0 90", "wire 10 0"]
        self.check(Net(gates, [(11, 10, (10, 0, 90)), (10, 0, ())]), "\n".join(rows))

    def test_read_again_it_is_an_equal_net(self):
        for seed in range(60):
            net = fixed_net(seed, 3 + seed % 10, 8 + seed % 20, 1 + seed % 5)
            self.check(net, net_text(net))

    def test_signs(self):
        for seed in range(10):
            self.assertRegex(net_text(fixed_net(seed)), r"\A[ -~\n]+\Z")
            self.assertNotRegex(net_text(fixed_net(seed)), r"  |\n\n|\A[ \n]|[ \n]\Z| \n|\n ")


class NoNetText(unittest.TestCase):
    def no_text(self, text):
        with self.assertRaises(NoText) as caught:
            read_net(text)
        self.assertIsInstance(caught.exception, LagError)

    def test_no_text_at_all(self):
        for thing in NO_TEXT + [small_net(), [SMALL], SMALL.encode()]:
            self.no_text(thing)

    def test_empty_and_blank(self):
        for text in ("", " ", "\n", "\n\n", "gate", "wire", "sum", "gate ", "net", "0", "gate\n", " gate sum 1"):
            self.no_text(text)

    def test_a_word_left_out_told_twice_or_changed(self):
        rows = [row.split(" ") for row in SMALL.split("\n")]
        # Registers may be one more, of another worth, and that is another net.
        let = ["wire 0 1 1", "wire 1 1 5 5", "wire 1 1 1 5", "wire 1 2 2"]
        for at, words in enumerate(rows):
            for k in range(len(words)):
                for other in (words[:k] + words[k + 1:], words[:k + 1] + words[k:], words[:k] + ["x"] + words[k:],
                              words[:k] + [""] + words[k:], words[:k] + ["x"] + words[k + 1:]):
                    text = "\n".join([" ".join(row) for row in rows[:at] + [other] + rows[at + 1:]])
                    if " ".join(other) in let:
                        self.assertEqual(net_text(read_net(text)), text)
                    else:
                        self.no_text(text)

    def test_strange_kinds_and_words(self):
        for row in ("gate Sum 3", "gate plus 3", "gate  3", "gate in out 3", "Gate sum 3", "gates sum 3", "gat sum 3",
                    "GATE SUM 3", "gate gate 3", "gate wire 3", "gate 3 sum", "gate sum sum", "gate sum", "gate 3",
                    "node sum 3", "gate 0 3", "gate sum\t3", "gate\tsum 3", "gate sum 3 3", "gate sum 3 x"):
            self.no_text(row)
            self.no_text("gate one 1\n" + row)
            self.no_text(row + "\ngate one 1")
        for row in ("Wire 0 1", "wires 0 1", "wire 0 x", "wire x 1", "wire 0", "wire", "wire 0 1 x", "wire 0 1 5 x",
                    "0 1", "wire\t0 1", "wire 0 1,5", "wire 0,1", "wire 0 1 ()", "wire 0 1 5, 6", "row 0 1"):
            self.no_text("gate one 1\ngate one 1\n" + row)
            self.no_text("gate one 1\ngate one 1\nwire 0 1\n" + row)

    def test_numbers_that_are_written_in_another_way(self):
        for number in ("00", "01", "007", "+1", "-1", "-0", "--1", "1.0", "1_0", "0x1", "1e1", " 1", "1 ", "", "-", "+",
                       "one", "\u0661", "\u00b2", "\uff11", "1\u0661", "\u2160", "101", "1000", "1" * 60, "1" * 61,
                       "0" * 61, "1" * 5000, "None", "True", "-" + "0" * 60, "1-", "1\n", "1\r", "1\x0b", "1\u2028"):
            self.no_text(f"gate sum {number}")
            self.no_text(f"gate sum 5\ngate sum {number}")
            self.no_text(f"gate sum 5\ngate sum 5\nwire {number} 1")
            self.no_text(f"gate sum 5\ngate sum 5\nwire 0 {number}")
            self.no_text(f"gate sum 5\ngate sum 5\nwire 0 1 {number}")
            self.no_text(f"gate sum 5\ngate sum 5\nwire 0 1 5 {number} 5")
            self.no_text(f"gate sum 5\ngate sum 5\nwire 0 1 {number}\nwire 0 1")

    def test_numbers_at_their_edges(self):
        self.assertEqual(read_net("gate sum 100").gates, [("sum", 100)])
        self.no_text("gate sum 101")
        self.no_text("gate in 1")
        self.no_text("gate sum 1\ngate out 1\nwire 0 1")
        self.assertEqual(read_net("gate sum 1\nwire 0 0 96").wires, [(0, 0, (96,))])
        self.no_text("gate sum 1\nwire 0 0 97")
        self.no_text("gate sum 1\nwire 0 1")
        self.no_text("gate sum 1\nwire 1 0")
        self.no_text("gate sum 1\ngate sum 1\nwire 0 2")
        self.no_text("gate sum 1\ngate sum 1\nwire 0 -1")

    def test_blanks_and_line_feeds(self):
        for text in (SMALL + "\n", "\n" + SMALL, SMALL + " ", " " + SMALL, SMALL.replace("\n", "\n\n", 1),
                     SMALL.replace("\nwire", "\n\nwire", 1), SMALL.replace(" ", "  ", 1), SMALL.replace("\n", " \n", 1),
                     SMALL.replace("\n", "\n ", 1), SMALL.replace("\n", "\r\n"), SMALL.replace("\n", "\r"),
                     SMALL + "\r", SMALL + "\x00", SMALL.replace("\n", "\x0b"), SMALL.replace("\n", "\u2028"),
                     SMALL + "\t", SMALL.replace(" ", "\t"), SMALL.replace(" ", "\u00a0"), "\ufeff" + SMALL,
                     SMALL.replace("\n", " "),
                     SMALL.replace("1 1 5", "1 1  5"), SMALL.replace("1 1 5", "1 1 5 ")):
            self.no_text(text)

    def test_rows_in_another_order(self):
        rows = SMALL.split("\n")
        self.no_text("\n".join(rows[3:] + rows[:3]))
        self.no_text("\n".join(rows[:2] + rows[3:] + rows[2:3]))
        self.no_text("\n".join(rows[:2] + [rows[4], rows[2], rows[3], rows[5]]))
        self.no_text("gate sum 1\nwire 0 0 5\ngate sum 1")
        self.no_text("wire 0 0 5\ngate sum 1")
        # Wires change places without a fault: that is another net.
        self.assertNotEqual(read_net("\n".join(rows[:3] + [rows[4], rows[3], rows[5]])), small_net())

    def test_rows_left_out_or_told_twice(self):
        rows = SMALL.split("\n")
        for at in (0, 1, 2, 5):
            self.no_text("\n".join(rows[:at] + rows[at + 1:]))
        for text in ("wire 0 0 5", "\n".join(rows + rows[5:]), "\n".join(rows + rows[:1]), "\n".join(rows + rows)):
            self.no_text(text)

    def test_nets_that_there_are_not(self):
        for text in ("gate out 0", "gate first 1", "gate in 0\ngate sum 1\nwire 1 0",
                     "gate sum 1\ngate out 0\nwire 0 1\nwire 1 0", "gate sum 1\ngate out 0\nwire 0 1\nwire 0 1",
                     "gate sum 1\nwire 0 0", "gate sum 1\ngate sum 1\nwire 0 1\nwire 1 0",
                     "gate in 0\ngate in 0\nwire 0 1", "gate out 0\ngate out 0\nwire 0 1"):
            self.no_text(text)


class LagsText(unittest.TestCase):
    def check(self, lags, text):
        self.assertEqual((lags_text(lags), type(lags_text(lags))), (text, str))
        told = read_lags(text)
        self.assertEqual((told, type(told), {type(lag) for lag in told} - {int}), (lags, list, set()))

    def test_by_hand(self):
        self.check([], "")
        self.check([0], "0")
        self.check([5], "5")
        self.check([-5], "-5")
        self.check([0, 0, 0], "0 0 0")
        self.check([1, -1, 500, -500, 0], "1 -1 500 -500 0")
        self.check([10, -10, 100, 1000, -90], "10 -10 100 1000 -90")

    def test_beyond_what_lags_are(self):
        self.check([501, -501, 10 ** 20], "501 -501 1" + "0" * 20)
        self.check([HUGE, -HUGE, 10 ** 59], "9" * 60 + " -" + "9" * 60 + " 1" + "0" * 59)

    def test_no_lags(self):
        for thing in odd_things() + ["", "0", "0 1", 0, 1, HUGE, (), (0,), (0, 1), {0: 0}, {0}, range(2), small_net()]:
            with self.assertRaises(NoLags):
                lags_text(thing)
        for thing in odd_things() + ["", "0", "0 1", [], [0], (), (0,)]:
            for lags in ([thing], [0, thing], [thing, 0], [1, 2, thing, 3]):
                with self.assertRaises(NoLags) as caught:
                    lags_text(lags)
                self.assertIsInstance(caught.exception, LagError)

    def test_no_text(self):
        for thing in NO_TEXT:
            with self.assertRaises(NoText) as caught:
                read_lags(thing)
            self.assertIsInstance(caught.exception, LagError)

    def test_another_text(self):
        words = ["-0", "+1", "+0", "00", "01", "-01", "-00", "007", "--1", "-", "+", "1.0", "1_0", "0x1", "1e1", "x",
                 "one", "1" * 61, "-" + "1" * 61, "0" * 61, "1" * 5000, "\u0661", "\u00b2", "\uff11", "-\u0661", "1,",
                 "[1]", "None", "True", "1-", "1-1", "\u22121", "1\n", "\n1", "1\t", "1\r", "1\x0b", "1\u2028",
                 "1\x00", "(1)"]
        for word in words:
            for text in (word, "0 " + word, word + " 0", "1 " + word + " -1"):
                with self.assertRaises(NoText, msg=repr(text)[:80]):
                    read_lags(text)

    def test_blanks(self):
        for text in (" ", "  ", " 0", "0 ", "0  1", "0 1 ", " 0 1", "0\n1", "0\t1", "\n", "0 1\n", "0\u00a01", "0,1"):
            with self.assertRaises(NoText):
                read_lags(text)

    def test_as_many_figures_as_let(self):
        self.assertEqual(read_lags("1" * 60), [int("1" * 60)])
        self.assertEqual(read_lags("-" + "1" * 60), [-int("1" * 60)])


class Untouched(unittest.TestCase):
    def test_what_is_handed_in_stands_as_ahead(self):
        net, lags = small_net(), [1, -2, 3]
        told = (net_text(net), lags_text(lags))
        self.assertEqual((net, lags), (small_net(), [1, -2, 3]))
        self.assertEqual((net_text(net), lags_text(lags)), told)
        bad = [1, None, "2"]
        with self.assertRaises(NoLags):
            lags_text(bad)
        self.assertEqual(bad, [1, None, "2"])

    def test_told_things_are_the_askers_own(self):
        told = read_net(SMALL)
        told.gates.clear()
        told.wires.clear()
        self.assertEqual(read_net(SMALL), small_net())
        read_lags("1 2").clear()
        self.assertEqual(read_lags("1 2"), [1, 2])
        read_lags("").append(5)
        self.assertEqual(read_lags(""), [])


class Bounds(unittest.TestCase):
    def test_greatest_nets_in_a_short_time(self):
        for net in bound_nets():
            began = time.monotonic()
            self.assertEqual(read_net(net_text(net)), net)
            self.assertLess(time.monotonic() - began, 1)
        lags = [HUGE - k if k % 2 else k - HUGE for k in range(2000)]
        began = time.monotonic()
        self.assertEqual(read_lags(lags_text(lags)), lags)
        self.assertLess(time.monotonic() - began, 1)


class Interface(unittest.TestCase):
    def test_names_and_arguments(self):
        for function, names in ((net_text, ["net"]), (read_net, ["text"]), (lags_text, ["lags"]),
                                (read_lags, ["text"])):
            self.assertEqual(function.__module__, "lagshift.texts")
            self.assertEqual(getattr(module, function.__name__), function)
            self.assertEqual(list(inspect.signature(function).parameters), names)

    def test_by_name(self):
        self.assertEqual(net_text(net=small_net()), SMALL)
        self.assertEqual(read_net(text=SMALL), small_net())
        self.assertEqual(lags_text(lags=[1, -2]), "1 -2")
        self.assertEqual(read_lags(text="1 -2"), [1, -2])


if __name__ == "__main__":
    unittest.main()
