"""A console: commands, strings, for a bench."""

from planetlocks.demands import need_shaft
from planetlocks.errors import InvalidCommand, InvalidWords, NotReady
from planetlocks.live import Bench, SureBench, need_driven_bench
from planetlocks.ranges import compared
from planetlocks.words import (
    fraction_of,
    lock_of,
    natural_of,
    read_box,
    write_box,
    write_locks,
    write_range,
    write_ratios,
)

BEGINNINGS = ("bench", "sure")
# Which parts stand behind the word of each command for a bench.
PARTS = {
    "on": ("lock",),
    "off": ("lock",),
    "shift": ("lock", "lock"),
    "tell": ("number", "fraction"),
    "undo": (),
    "word": (),
    "locks": (),
    "ratios": (),
    "box": (),
    "range": ("number",),
    "faster": ("number", "number"),
}
# Shafts and works are called by one digit.
GREATEST = 9


def _on(bench, parts):
    return bench.on(parts[0])


def _off(bench, parts):
    return bench.off(parts[0])


def _shift(bench, parts):
    return bench.shift(parts[0], parts[1])


def _tell(bench, parts):
    return bench.tell(parts[0], parts[1])


def _undo(bench, _):
    bench.undo()
    return "ok"


def _word(bench, _):
    return bench.word


def _locks(bench, _):
    return write_locks(bench.box.shafts, bench.locks)


def _ratios(bench, _):
    return write_ratios(bench.box, bench.ratios)


def _box(bench, _):
    return write_box(bench.box)


def _range(bench, parts):
    low, high = bench.range_of(parts[0])
    return write_range(low, high)


def _faster(bench, parts):
    for shaft in parts:
        need_shaft(bench.box.shafts, shaft)
    need_driven_bench(bench)
    return compared(bench.box, bench.ratios, bench.locks, bench.inlet, parts[0], parts[1])


ACTIONS = {
    "on": _on,
    "off": _off,
    "shift": _shift,
    "tell": _tell,
    "undo": _undo,
    "word": _word,
    "locks": _locks,
    "ratios": _ratios,
    "box": _box,
    "range": _range,
    "faster": _faster,
}


class Console:
    """Executes commands; at first there is no bench."""

    def __init__(self):
        self._bench = None

    def execute(self, command):
        """What the command puts out, a string."""
        if type(command) is not str:
            raise InvalidCommand("a string is due")
        words = command.split(" ")
        if words[0] in BEGINNINGS:
            self._bench = _begun(words)
            return self._bench.word
        parts = _parts_of(words)
        if self._bench is None:
            raise NotReady("there is no bench")
        action = ACTIONS[words[0]]
        return action(self._bench, parts)


def _begun(words):
    """The bench with which these words begin."""
    box = _box_of(words[2:])
    inlet = natural_of(words[1], box.shafts)
    if inlet is None or inlet == 0:
        raise InvalidCommand("an inlet of the box is due")
    return SureBench(box, inlet) if words[0] == "sure" else Bench(box, inlet)


def _box_of(words):
    try:
        return read_box(" ".join(words))
    except InvalidWords:
        raise InvalidCommand("the text of a box is due") from None


def _parts_of(words):
    """The values behind the word of a command for a bench."""
    if words[0] not in PARTS or len(words) != len(PARTS[words[0]]) + 1:
        raise InvalidCommand("a command is due")
    kinds = PARTS[words[0]]
    parts = [_part_of(kinds[at], words[at + 1]) for at in range(len(kinds))]
    if None in parts:
        raise InvalidCommand("a part of the command has not its form")
    return parts


def _part_of(kind, word):
    """The value that is written so; None if the word has not the form of this kind."""
    if kind == "lock":
        return lock_of(word, GREATEST)
    if kind == "fraction":
        return fraction_of(word)
    return natural_of(word, GREATEST)
