"""Texts of boxes, ratios, locks and ranges: words with one space between."""

from planetlocks.boxes import Box, need_box
from planetlocks.demands import need_locks, need_ratios, need_shafts
from planetlocks.errors import InvalidFraction, InvalidWords
from planetlocks.kinds import PLANET_WORDS, WHEEL_WORDS, is_above_zero, is_quotient

NOTHING = "-"
UNKNOWN = "?"
MOST_SHAFTS = 8
MOST_WORKS = 6
MOST_DIGITS = 12
DIGITS = "0123456789"


def write_box(box):
    """The text of a box: its number of shafts, then each work and its shafts."""
    need_box(box)
    words = [str(box.shafts)]
    for work in box.works:
        words.append(work[0])
        words.extend([str(shaft) for shaft in work[1:]])
    return " ".join(words)


def write_ratios(box, ratios):
    """The text of ratios: a fraction or ? for each work."""
    need_box(box)
    need_ratios(len(box), ratios)
    return _joined([UNKNOWN if ratio is None else _fraction_word(ratio) for ratio in ratios])


def write_locks(shafts, locks):
    """The text of locks: the greater shaft, a hyphen and the lesser one for each."""
    need_shafts(shafts)
    need_locks(shafts, locks)
    return _joined([f"{lock[0]}-{lock[1]}" for lock in locks])


def write_range(low, high):
    """The text of a range: both ends, * for a missing one; one number alone."""
    for end in (low, high):
        if end is not None and not is_quotient(end):
            raise InvalidFraction("a fraction or None is due")
    if low is not None and low == high:
        return _fraction_word(low)
    ends = ["*" if end is None else _fraction_word(end) for end in (low, high)]
    return "..".join(ends)


def read_box(words):
    """The box with this text."""
    row = _row_of(words)
    shafts = natural_of(row[0], MOST_SHAFTS)
    if shafts is None or shafts == 0:
        raise InvalidWords(0)
    works = []
    at = 1
    while at < len(row):
        if len(works) == MOST_WORKS:
            raise InvalidWords(at)
        work = _work_from(shafts, row, at)
        works.append(work)
        at += len(work)
    return Box(shafts, works)


def read_ratios(box, words):
    """The ratios of the box with this text."""
    need_box(box)
    row = _row_of(words)
    if len(box) == 0:
        return _nothing_in(row)
    ratios = []
    for at in range(len(row)):
        ratio = fraction_of(row[at])
        if at >= len(box) or not (row[at] == UNKNOWN or is_above_zero(ratio)):
            raise InvalidWords(at)
        ratios.append(ratio)
    if len(row) < len(box):
        raise InvalidWords(len(row))
    return ratios


def read_locks(shafts, words):
    """The locks of so many shafts with this text."""
    need_shafts(shafts)
    row = _row_of(words)
    if row[0] == NOTHING:
        return _nothing_in(row)
    locks = []
    for at in range(len(row)):
        lock = lock_of(row[at], shafts)
        if lock is None or not (at == 0 or locks[at - 1] < lock):
            raise InvalidWords(at)
        locks.append(lock)
    return locks


def natural_of(word, greatest):
    """The integer from 0 to the greatest one that is written so, without a leading 0; None if it is none."""
    if not _is_natural(word) or len(word) > len(str(greatest)):
        return None
    number = int(word)
    return number if number <= greatest else None


def fraction_of(word):
    """The fraction that is written so; None if it is none."""
    top, _, bottom = word.partition("/")
    digits = top[1:] if top.startswith("-") else top
    if not _is_natural(digits) or not _is_natural(bottom) or top == "-0":
        return None
    if len(digits) > MOST_DIGITS or len(bottom) > MOST_DIGITS:
        return None
    fraction = (int(digits) if digits == top else -int(digits), int(bottom))
    return fraction if is_quotient(fraction) else None


def lock_of(word, greatest):
    """The lock of shafts up to the greatest one that is written so; None if it is none."""
    left, _, right = word.partition("-")
    first = natural_of(left, greatest)
    second = natural_of(right, greatest)
    if first is None or second is None or first <= second:
        return None
    return (first, second)


def _row_of(words):
    """The words of a text; there is always one, perhaps empty."""
    if type(words) is not str:
        raise InvalidWords(0)
    return words.split(" ")


def _nothing_in(row):
    """A new empty list, if this is what the words say."""
    if row[0] != NOTHING:
        raise InvalidWords(0)
    if len(row) > 1:
        raise InvalidWords(1)
    return []


def _work_from(shafts, row, at):
    """The work that begins with the word at this index."""
    # With one shaft there is no work, so that no word of one can stand there.
    if shafts < 2 or row[at] not in PLANET_WORDS + WHEEL_WORDS:
        raise InvalidWords(at)
    least, count = (0, 3) if row[at] in PLANET_WORDS else (1, 2)
    work = (row[at],)
    for place in range(at + 1, at + count + 1):
        if place == len(row):
            raise InvalidWords(place)
        shaft = natural_of(row[place], shafts)
        if shaft is None or shaft < least or shaft in work:
            raise InvalidWords(place)
        work = work + (shaft,)
    return work


def _is_natural(word):
    """Whether the word is the one that an integer from 0 on is written by."""
    if word == "" or not all([sign in DIGITS for sign in word]):
        return False
    return word == "0" or word[0] != "0"


def _joined(words):
    return " ".join(words) if words else NOTHING


def _fraction_word(fraction):
    return f"{_digits_of(fraction[0])}/{_digits_of(fraction[1])}"


def _digits_of(number):
    """An integer as it is written; piece by piece, as Python itself writes only some thousand digits at once."""
    if number < 0:
        return "-" + _digits_of(-number)
    pieces = []
    while number >= 10 ** 64:
        number, rest = divmod(number, 10 ** 64)
        pieces.append(str(rest).zfill(64))
    pieces.append(str(number))
    return "".join(pieces[::-1])
