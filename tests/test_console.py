"""Point 28: the console and its commands."""

import random
import unittest

from planetlocks.boxes import Box
from planetlocks.console import Console
from planetlocks.errors import (
    BoxError, InvalidCommand, InvalidFraction, InvalidIndex, InvalidLock, InvalidShaft, NotDriven, NotEngaged,
    NothingToUndo, NotReady, Refused,
)
from planetlocks.live import Bench, SureBench
from planetlocks.ranges import compared
from planetlocks.words import write_locks, write_range, write_ratios
from tests.gears import all_locks
from tests.values import any_values

SET = "3 planet 1 2 3"


def started(*commands, first=f"bench 1 {SET}"):
    console = Console()
    for command in (first,) + commands:
        console.execute(command)
    return console


def shown(console):
    """All that a console shows of its bench."""
    return [console.execute(command) for command in ("word", "locks", "ratios", "box")]


class CommandTest(unittest.TestCase):
    def test_examples(self):
        console = Console()
        found = [console.execute(f"bench 1 {SET}"), console.execute("on 3-0"), console.execute("range 2"),
                 console.execute("faster 1 2")]
        self.assertEqual(found, ["loose", "driven", "0/1..1/1", "faster"])
        found = [console.execute("tell 0 5/2"), console.execute("range 2"), console.execute("undo"),
                 console.execute("ratios")]
        self.assertEqual(found, ["driven", "2/7", "ok", "?"])

    def test_each_command(self):
        console = Console()
        for command, due in (
                ("sure 1 5 planet 1 2 3 planet 2 4 5", "loose"), ("word", "loose"), ("locks", "-"), ("ratios", "? ?"),
                ("box", "5 planet 1 2 3 planet 2 4 5"), ("on 3-0", "loose"), ("on 5-0", "driven"), ("locks", "3-0 5-0"),
                ("range 4", "0/1..1/1"), ("range 0", "0/1"), ("faster 4 1", "slower"), ("faster 3 5", "same"),
                ("faster 1 4", "faster"), ("tell 0 5/2", "driven"), ("ratios", "5/2 ?"), ("range 4", "0/1..2/7"),
                ("shift 5-0 5-4", "driven"), ("faster 2 4", "same"), ("locks", "3-0 5-4"), ("off 5-4", "loose"),
                ("undo", "ok"), ("word", "driven"), ("locks", "3-0 5-4"), ("undo", "ok"), ("locks", "3-0 5-0"),
                ("shift 3-0 3-0", "driven"), ("undo", "ok"), ("tell 1 1/3", "driven"), ("range 4", "3/14")):
            with self.subTest(command=command):
                self.assertEqual(console.execute(command=command), due)

    def test_words_of_a_bench(self):
        console = Console()
        self.assertEqual(console.execute("bench 1 3 double 1 2 3"), "loose")
        self.assertEqual([console.execute("on 3-0"), console.execute("word")], ["unsure", "unsure"])
        self.assertEqual([console.execute("tell 0 1/1"), console.execute("on 2-0")], ["held", "over"])
        self.assertEqual(console.execute("off 3-0"), "driven")
        self.assertEqual(console.execute("faster 1 3"), "same")

    def test_either(self):
        console = started("on 2-0", first="bench 1 3 double 1 2 3")
        self.assertEqual(console.execute("faster 1 3"), "either")

    def test_texts(self):
        console = started("on 2-0", first="bench 2 8" + " band 7 8" * 6)
        self.assertEqual(console.execute("box"), "8" + " band 7 8" * 6)
        self.assertEqual(console.execute("ratios"), "? ? ? ? ? ?")
        console = started(first="bench 1 1")
        self.assertEqual(shown(console), ["driven", "-", "-", "1"])
        self.assertEqual(console.execute("range 1"), "1/1")

    def test_a_new_bench(self):
        console = started("on 3-0", "tell 0 5/2")
        self.assertEqual(console.execute("sure 2 2 pair 1 2"), "driven")
        self.assertEqual(shown(console), ["driven", "-", "?", "2 pair 1 2"])
        with self.assertRaises(NothingToUndo):
            console.execute("undo")
        self.assertEqual(console.execute("range 1"), "*..0/1")

    def test_two_consoles(self):
        one, other = started("on 3-0"), started()
        self.assertEqual([one.execute("locks"), other.execute("locks")], ["3-0", "-"])

    def test_by_chance(self):
        """A console says what a bench says."""
        chance = random.Random(1)
        said = set()
        for turn in range(120):
            n = chance.choice([2, 3, 4])
            text = {2: "2 pair 1 2", 3: "3 double 1 2 3", 4: "4 planet 1 2 3 band 3 4"}[n]
            works = {2: [("pair", 1, 2)], 3: [("double", 1, 2, 3)], 4: [("planet", 1, 2, 3), ("band", 3, 4)]}[n]
            box, inlet, kind = Box(n, works), chance.randint(1, n), (Bench, SureBench)[turn % 2]
            console, bench = Console(), kind(box, inlet)
            self.assertEqual(console.execute(f"{('bench', 'sure')[turn % 2]} {inlet} {text}"), bench.word)
            for _ in range(30):
                pair, other = chance.choice(all_locks(n)), chance.choice(all_locks(n))
                shaft, at = chance.randint(0, n + 1), chance.randint(0, 2)
                ratio = chance.choice([(1, 1), (5, 2), (0, 1), (-1, 3)])
                command, call = chance.choice([
                    (f"on {pair[0]}-{pair[1]}", lambda: bench.on(pair)),
                    (f"off {pair[0]}-{pair[1]}", lambda: bench.off(pair)),
                    (f"shift {pair[0]}-{pair[1]} {other[0]}-{other[1]}", lambda: bench.shift(pair, other)),
                    (f"tell {at} {ratio[0]}/{ratio[1]}", lambda: bench.tell(at, ratio)),
                    ("undo", lambda: bench.undo() or "ok"),
                    ("word", lambda: bench.word),
                    ("locks", lambda: write_locks(n, bench.locks)),
                    ("ratios", lambda: write_ratios(box, bench.ratios)),
                    (f"range {shaft}", lambda: write_range(*bench.range_of(shaft))),
                    (f"faster {shaft} {at}", lambda: self.faster(bench, shaft, at)),
                ])
                with self.subTest(command=command):
                    due, found = self.outcome(call), self.outcome(lambda: console.execute(command))
                    self.assertEqual(found, due)
                    said.add((command.split()[0], type(due) is str))
        self.assertGreater(len(said), 14)

    def faster(self, bench, shaft, other):
        for one in (shaft, other):
            if one > bench.box.shafts:
                raise InvalidShaft("")
        if bench.word != "driven":
            raise NotDriven("")
        return compared(bench.box, bench.ratios, bench.locks, bench.inlet, shaft, other)

    def outcome(self, call):
        try:
            return call()
        except BoxError as error:
            return (type(error), getattr(error, "reason", None))


class InvalidCommandTest(unittest.TestCase):
    def judge(self, commands):
        console = started("on 3-0", "tell 0 5/2")
        before = shown(console)
        for command in commands:
            with self.subTest(command=command):
                with self.assertRaises(InvalidCommand) as caught:
                    console.execute(command)
                self.assertIs(type(caught.exception), InvalidCommand)
                with self.assertRaises(InvalidCommand):
                    Console().execute(command)
        self.assertEqual(shown(console), before)

    def test_any_value(self):
        self.judge(any_values() + [b"word", ["word"], ("word",)])

    def test_near_commands(self):
        self.judge(["", " ", "Word", "WORD", " word", "word ", "word word", "words", "lock", "locks 3", "box 1",
                    "ratios -",
                    "undo 1", "undo ", "undoes", "help", "word\n", "undo\t", "ranges 1", "?", "-"])

    def test_shafts_and_works(self):
        self.judge(["range", "range ", "range 10", "range 01", "range -1", "range -0", "range +1", "range x",
                    "range 1 2",
                    "range  1", "range 1 ", "range 1.0", "range \u0661", "faster 1", "faster", "faster 1 2 3",
                    "faster 1  2",
                    "faster 1 10", "faster 10 1", "faster x y", "tell", "tell 0", "tell 10 1/1", "tell 00 1/1",
                    "tell -1 1/1",
                    "tell x 1/1", "tell 0 1/1 2/1", "tell  0 1/1"])

    def test_locks(self):
        self.judge(["on", "on ", "on 3", "on 4-5", "on 0-3", "on 3-3", "on 3-", "on -3", "on 10-0", "on 3-00",
                    "on 03-0",
                    "on 3--0", "on 3-0 2-1", "on 3 0", "on (3,0)", "on 3-x", "off", "off 3", "off 1-2", "off 3-0 ",
                    "shift", "shift 3-0", "shift 3-0 0-1", "shift 0-1 3-0", "shift 3-0 2-1 1-0", "shift 3-0  2-1",
                    "shift 3-0 2", "on 12-3"])

    def test_fractions(self):
        self.judge(["tell 0 5", "tell 0 10/4", "tell 0 5/0", "tell 0 5/-2", "tell 0 +5/2", "tell 0 05/2", "tell 0 5/02",
                    "tell 0 -0/1", "tell 0 0/2", "tell 0 ?", "tell 0 1000000000000/1", "tell 0 1/1000000000000",
                    "tell 0 -1000000000000/1", "tell 0 /", "tell 0 5/", "tell 0 /2", "tell 0 5/2/1", "tell 0 --5/2",
                    "tell 0 *", "tell 0 -", "tell 0 1.5"])

    def test_boxes(self):
        self.judge(["bench", "sure", "bench ", "bench 1", "sure 1", "bench 1 ", f"bench  1 {SET}", f"bench 1  {SET}",
                    f"bench 0 {SET}", f"bench 4 {SET}", f"bench 9 {SET}", f"bench 01 {SET}", f"bench x {SET}",
                    f"bench -1 {SET}", f"sure 0 {SET}", f"sure 4 {SET}", f"bench {SET}", f"bench 1 {SET} ", "bench 1 9",
                    "bench 1 0", "bench 1 3 planet 1 2", "bench 1 3 planet 1 2 2", "bench 1 3 gear 1 2 3",
                    "bench 1 2" + " pair 1 2" * 7, "sure 1 03", "sure 2 1", f"Bench 1 {SET}", f"bench 1 2 {SET}",
                    f"bench 10 {SET}", "bench 1 1 planet", "sure 1 3 pair 0 1"])


class ErrorsTest(unittest.TestCase):
    def raises(self, error, console, command):
        before = shown(console)
        undone = console.execute("undo")
        # That nothing is changed holds for what can be taken back, too: the same deed is done again.
        self.assertEqual(undone, "ok")
        console.execute("on 3-0")
        with self.subTest(command=command):
            with self.assertRaises(error) as caught:
                console.execute(command)
            self.assertIs(type(caught.exception), error)
        self.assertEqual(shown(console), before)

    def test_no_bench(self):
        for command in ("on 3-0", "off 3-0", "shift 3-0 2-1", "tell 0 5/2", "tell 0 -5/2", "undo", "word", "locks",
                        "ratios", "box", "range 2", "faster 1 2", "range 9", "on 9-8"):
            with self.subTest(command=command), self.assertRaises(NotReady):
                Console().execute(command)
        console = Console()
        with self.assertRaises(InvalidCommand):
            console.execute("bench 4 " + SET)
        with self.assertRaises(NotReady):
            console.execute("word")

    def test_errors_of_the_deeds(self):
        console = started("on 3-0")
        for error, command in (
                (InvalidLock, "on 3-0"), (InvalidLock, "on 4-0"), (InvalidLock, "on 9-8"), (InvalidLock, "off 4-0"),
                (NotEngaged, "off 2-1"), (NotEngaged, "shift 2-1 3-0"), (InvalidLock, "shift 3-0 9-0"),
                (InvalidLock, "shift 9-0 2-1"), (NotEngaged, "shift 2-1 9-0"),
                (InvalidIndex, "tell 1 5/2"), (InvalidIndex, "tell 9 -5/2"), (InvalidFraction, "tell 0 0/1"),
                (InvalidFraction, "tell 0 -5/2"), (InvalidShaft, "range 4"), (InvalidShaft, "faster 4 1"),
                (InvalidShaft, "faster 1 9")):
            self.raises(error, console, command)
        console = started("on 2-1")
        console.execute("on 3-0")
        for error, command in ((NotDriven, "range 2"), (NotDriven, "faster 1 2"), (InvalidShaft, "range 4"),
                               (InvalidShaft, "faster 4 1"), (InvalidShaft, "faster 1 4")):
            self.raises(error, console, command)
        console = started("tell 0 5/2", "on 3-0")
        self.raises(InvalidIndex, console, "tell 0 3/1")
        self.raises(InvalidIndex, console, "tell 0 -3/1")
        with self.assertRaises(NothingToUndo):
            started().execute("undo")

    def test_not_driven(self):
        for console in (started(), started("on 1-0"), started("on 1-0", "on 2-0"),
                        started("on 3-0", first="bench 1 3 double 1 2 3")):
            for command in ("range 0", "range 3", "faster 0 0", "faster 1 2"):
                with self.assertRaises(NotDriven):
                    console.execute(command)
            for command in ("range 4", "faster 9 0", "faster 0 9"):
                with self.assertRaises(InvalidShaft):
                    console.execute(command)

    def test_refused(self):
        console = started(first=f"sure 1 {SET}")
        with self.assertRaises(Refused) as caught:
            console.execute("on 1-0")
        self.assertEqual(caught.exception.reason, "held")
        self.assertEqual(shown(console), ["loose", "-", "?", SET])
        console.execute("on 3-0")
        with self.assertRaises(Refused) as caught:
            console.execute("on 2-0")
        self.assertEqual(caught.exception.reason, "over")
        console.execute("undo")
        with self.assertRaises(NothingToUndo):
            console.execute("undo")

    def test_a_failed_beginning_keeps_the_bench(self):
        console = started("on 3-0")
        for command in ("bench 4 " + SET, "sure 1 9", "bench 1"):
            with self.assertRaises(InvalidCommand):
                console.execute(command)
        self.assertEqual(shown(console), ["driven", "3-0", "?", SET])
