"""Calendars: at which sizes the boards of an orderless total are seen, even, sharp or clear."""

from oneforone.checks import is_between, is_from, is_tuple, unchanged
from oneforone.errors import InvalidCalendar, InvalidSize, InvalidWord
from oneforone.joins import have_common
from oneforone.machines import signs_behind
from oneforone.orders import check_orderless
from oneforone.short_rows import match_of_rows


def _stands_behind(total, stands):
    """The ascending list of the stands to which one thing more leads."""
    return sorted(set([after for stand in stands for after in total.steps[stand]]))


def _matches(total, stands):
    """All matches of bags that come to these stands."""
    rows = sorted(set([signs_behind(total, stand) for stand in stands]))
    return [match_of_rows(one, other) for one in rows for other in rows]


def _is_seen(total, stands):
    rows = [signs_behind(total, stand) for stand in stands]
    return all([len(set(row)) == len(row) for row in rows])


def _is_even(total, stands):
    matches = _matches(total, stands)
    return all([one == other or not have_common(one, other) for one in matches for other in matches])


def _is_sharp(total, stands):
    matches = _matches(total, stands)
    return all([len(match) < 2 or all([unchanged(change) for change in match]) for match in matches])


def _is_clear(total, stands):
    for one in stands:
        for other in stands:
            match = match_of_rows(signs_behind(total, one), signs_behind(total, other))
            if total.signs[one] == total.signs[other] and not all([unchanged(change) for change in match]):
                return False
    return True


def _answer(total, word, stands):
    """The answer at a size, by the stands to which one value less comes."""
    if word == "seen":
        return _is_seen(total, stands)
    if word == "even":
        return _is_even(total, stands)
    if word == "sharp":
        return _is_sharp(total, stands)
    return _is_clear(total, stands)


def calendar(total, word):
    """The size from which on the answers come round, and the answers for the sizes from 1 on until they do."""
    if word not in ("seen", "even", "sharp", "clear"):
        raise InvalidWord(word)
    check_orderless(total)
    parts = [[0]]
    after = _stands_behind(total, parts[-1])
    while after not in parts:
        parts.append(after)
        after = _stands_behind(total, after)
    return parts.index(after) + 1, tuple([_answer(total, word, stands) for stands in parts])


def _is_calendar(value):
    if not is_tuple(value, 2) or not isinstance(value[1], tuple) or not 1 <= len(value[1]) <= 60:
        return False
    return is_between(value[0], 1, len(value[1])) and all([isinstance(answer, bool) for answer in value[1]])


def answer_at(calendar, size):
    """The answer at any size, by a calendar."""
    if not _is_calendar(calendar):
        raise InvalidCalendar(calendar)
    if not is_from(size, 1):
        raise InvalidSize(size)
    first, answers = calendar
    if size > len(answers):
        return answers[first - 1 + (size - first) % (len(answers) - first + 1)]
    return answers[size - 1]
