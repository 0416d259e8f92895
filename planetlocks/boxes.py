"""Boxes: shafts, and the works that join them."""

from planetlocks.demands import need_index, need_locks, need_order, need_shafts
from planetlocks.errors import InvalidBox, InvalidWork
from planetlocks.kinds import PLANET_WORDS, are_locks, are_ratios, are_works, is_one_work, is_quotient

SENSES = {"planet": 1, "double": -1, "pair": 1, "band": -1}


class Box:
    """So many shafts and a row of works; a box never changes."""

    def __init__(self, shafts, works):
        need_shafts(shafts)
        if not are_works(shafts, works):
            raise InvalidWork("a list of works of these shafts is due")
        self._shafts = shafts
        self._works = tuple(works)

    @property
    def shafts(self):
        return self._shafts

    @property
    def works(self):
        return self._works

    def __len__(self):
        return len(self._works)

    def __eq__(self, other):
        return isinstance(other, Box) and self._shafts == other._shafts and self._works == other._works

    def __add__(self, other):
        if not isinstance(other, Box):
            raise InvalidBox("only a box can stand beside a box")
        raised = [_raised(work, self._shafts) for work in other._works]
        return Box(self._shafts + other._shafts, list(self._works) + raised)


def is_fraction(value):
    """Whether any value is a fraction."""
    return is_quotient(value)


def is_work(shafts, value):
    """Whether any value is a work of so many shafts."""
    need_shafts(shafts)
    return is_one_work(shafts, value)


def is_locks(shafts, value):
    """Whether any value is a list of locks of so many shafts, ascending, each once."""
    need_shafts(shafts)
    return are_locks(shafts, value)


def is_ratios(box, value):
    """Whether any value is a list with None or a fraction above 0 for each work of the box."""
    need_box(box)
    return are_ratios(len(box), value)


def first_difference(box, at):
    """The first difference of the work with this index."""
    return ends_of(_work_at(box, at))[0]


def second_difference(box, at):
    """The second difference of the work with this index."""
    return ends_of(_work_at(box, at))[1]


def sense_at(box, at):
    """The sense of the work with this index, 1 or -1."""
    return ends_of(_work_at(box, at))[2]


def with_work(box, work):
    """The box with one more work behind."""
    need_box(box)
    return Box(box.shafts, list(box.works) + [work])


def without_work(box, at):
    """The box without the work with this index."""
    _need_place(box, at)
    return Box(box.shafts, list(box.works[:at] + box.works[at + 1:]))


def turned(box, at):
    """The box in which both outer shafts of this work, sun and ring or a and b, are exchanged."""
    work = _work_at(box, at)
    works = list(box.works)
    works[at] = work[:1] + work[:0:-1]
    return Box(box.shafts, works)


def renamed(box, order):
    """The box in which the shaft order[k] is called k + 1."""
    need_box(box)
    need_order(box.shafts, order)
    names = _new_names(order)
    return Box(box.shafts, [_named(work, names) for work in box.works])


def renamed_locks(shafts, order, locks):
    """The locks with the names that renamed gives to the shafts, greater shaft first, ascending."""
    need_shafts(shafts)
    need_order(shafts, order)
    need_locks(shafts, locks)
    names = _new_names(order)
    pairs = [(names[lock[0]], names[lock[1]]) for lock in locks]
    return sorted([(max(pair), min(pair)) for pair in pairs])


def ends_of(work):
    """Both differences of a work, and its sense."""
    middle = _middle(work)
    return ((work[1], middle), (work[-1], middle), SENSES[work[0]])


def need_box(box):
    """Raises InvalidBox unless the argument is a Box."""
    if not isinstance(box, Box):
        raise InvalidBox("a box is due")


def _need_place(box, at):
    need_box(box)
    need_index(len(box), at)


def _work_at(box, at):
    _need_place(box, at)
    return box.works[at]


def _middle(work):
    """The shaft that both differences of a work have: the carrier, or the housing for wheels."""
    return work[2] if work[0] in PLANET_WORDS else 0


def _raised(work, by):
    return work[:1] + tuple([shaft + by if shaft > 0 else 0 for shaft in work[1:]])


def _new_names(order):
    names = {order[at]: at + 1 for at in range(len(order))}
    names[0] = 0
    return names


def _named(work, names):
    return work[:1] + tuple([names[shaft] for shaft in work[1:]])
