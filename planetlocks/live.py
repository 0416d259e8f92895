"""Benches: a box on which locks are put on and off and ratios are told, deed by deed."""

from planetlocks.boxes import need_box
from planetlocks.demands import need_index, need_inlet, need_ratio, need_shaft
from planetlocks.errors import InvalidIndex, InvalidLock, NotDriven, NotEngaged, NothingToUndo, Refused
from planetlocks.kinds import is_lock
from planetlocks.ranges import speed_range
from planetlocks.trees import driven

WORDS = {"all": "driven", "some": "unsure", "none": "held"}
# What a sure bench may come to by a deed.
SURE_WORDS = ("loose", "driven")


class Bench:
    """A box with an inlet, on which locks and ratios come by deeds.

    A state is a tuple (locks, ratios, word), the first two of them tuples. The bench keeps the state at first and the
    one behind each deed, so that a deed is taken back by dropping the last one.
    """

    def __init__(self, box, inlet):
        need_box(box)
        need_inlet(box.shafts, inlet)
        self._box = box
        self._inlet = inlet
        self._states = [_state(box, inlet, [], [None] * len(box))]

    @property
    def box(self):
        return self._box

    @property
    def inlet(self):
        return self._inlet

    @property
    def locks(self):
        return list(self._states[-1][0])

    @property
    def ratios(self):
        return list(self._states[-1][1])

    @property
    def word(self):
        return self._states[-1][2]

    def on(self, pair):
        """Puts on a lock; the word behind it."""
        return self._done(self._after_on(pair))

    def off(self, pair):
        """Puts off a lock; the word behind it."""
        return self._done(self._after_off(pair))

    def shift(self, pair, other_pair):
        """Puts off a lock and puts on another one, in one deed; the word behind it."""
        return self._done(self._after_shift(pair, other_pair))

    def tell(self, at, ratio):
        """Tells the ratio of a work; the word behind it."""
        return self._done(self._after_tell(at, ratio))

    def undo(self):
        """Takes back the last deed."""
        if len(self._states) == 1:
            raise NothingToUndo("there is no deed to take back")
        self._states.pop()

    def range_of(self, shaft):
        """The range of the speed of the shaft."""
        need_shaft(self._box.shafts, shaft)
        need_driven_bench(self)
        return speed_range(self._box, self.ratios, self.locks, self._inlet, shaft)

    def twin(self):
        """A bench with the same state and the same deeds behind it, that goes its own way from here."""
        other = Bench(self._box, self._inlet)
        other._states = list(self._states)
        return other

    def __len__(self):
        return len(self._states[-1][0])

    def __eq__(self, other):
        if not isinstance(other, Bench):
            return False
        return self._box == other._box and self._inlet == other._inlet and self._states[-1] == other._states[-1]

    def _after_on(self, pair):
        return self._state_of(_put_on(self._box.shafts, self.locks, pair), self.ratios)

    def _after_off(self, pair):
        return self._state_of(_put_off(self._box.shafts, self.locks, pair), self.ratios)

    def _after_shift(self, pair, other_pair):
        rest = _put_off(self._box.shafts, self.locks, pair)
        return self._state_of(_put_on(self._box.shafts, rest, other_pair), self.ratios)

    def _after_tell(self, at, ratio):
        ratios = self.ratios
        need_index(len(ratios), at)
        if ratios[at] is not None:
            raise InvalidIndex("this ratio is told already")
        need_ratio(ratio)
        return self._state_of(self.locks, ratios[:at] + [ratio] + ratios[at + 1:])

    def _state_of(self, locks, ratios):
        return _state(self._box, self._inlet, locks, ratios)

    def _done(self, state):
        self._states.append(state)
        return state[2]


class SureBench(Bench):
    """A bench that refuses each deed behind which its word would be unsure, held or over."""

    def __init__(self, box, inlet):
        super().__init__(box, inlet)

    def on(self, pair):
        """Puts on a lock; the word behind it."""
        return self._surely_done(self._after_on(pair))

    def off(self, pair):
        """Puts off a lock; the word behind it."""
        return self._surely_done(self._after_off(pair))

    def shift(self, pair, other_pair):
        """Puts off a lock and puts on another one, in one deed; the word behind it."""
        return self._surely_done(self._after_shift(pair, other_pair))

    def tell(self, at, ratio):
        """Tells the ratio of a work; the word behind it."""
        return self._surely_done(self._after_tell(at, ratio))

    def twin(self):
        """A bench with the same state and the same deeds behind it, that goes its own way from here."""
        other = SureBench(self._box, self._inlet)
        other._states = list(self._states)
        return other

    def _surely_done(self, state):
        if state[2] not in SURE_WORDS:
            raise Refused(state[2])
        return self._done(state)


def need_driven_bench(bench):
    """Raises NotDriven unless the word of the bench is driven."""
    if bench.word != "driven":
        raise NotDriven("the inlet does not drive the bench for all ratios")


def _state(box, inlet, locks, ratios):
    return (tuple(locks), tuple(ratios), _word(box, inlet, locks, ratios))


def _word(box, inlet, locks, ratios):
    missing = box.shafts - 1 - len(box) - len(locks)
    if missing != 0:
        return "loose" if missing > 0 else "over"
    return WORDS[driven(box, ratios, locks, inlet)]


def _put_on(shafts, locks, pair):
    if not is_lock(shafts, pair) or pair in locks:
        raise InvalidLock("a lock that is not on is due")
    return sorted(locks + [pair])


def _put_off(shafts, locks, pair):
    if not is_lock(shafts, pair):
        raise InvalidLock("a lock is due")
    if pair not in locks:
        raise NotEngaged("this lock is not on")
    return [lock for lock in locks if lock != pair]
