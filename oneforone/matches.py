"""Matches: which changes two short bags have in common."""

from oneforone.checks import check_change, check_short_bag
from oneforone.short_rows import match_of_rows, sign_rows


def match_of(board, one, other):
    """The ascending list of the changes (a, c) such that `one` with a more and `other` with c more are like."""
    check_short_bag(board, one)
    check_short_bag(board, other)
    rows = sign_rows(board)
    return match_of_rows(rows[one], rows[other])


def matches_with(board, change):
    """The ascending list of the tuples of two short bags whose match has the change."""
    check_change(board, change)
    here, there = change
    rows = sign_rows(board)
    return [(one, other) for one in rows for other in rows if rows[one][here] == rows[other][there]]
