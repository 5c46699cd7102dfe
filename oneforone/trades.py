"""When trades tell everything, and how few of them do."""

from oneforone.checks import is_between, is_from, is_list, is_set, is_tuple
from oneforone.errors import InvalidNumbers, InvalidRows
from oneforone.failures import Hidden
from oneforone.joins import joined
from oneforone.moves import hiding_trades
from oneforone.stages import seen_kinds
from oneforone.tables import check_trading, rows_in


def _joining(ins, outs):
    """Trades, one less than there are rows, that join some rows that are in and some that are out."""
    path = [ins[0]] + outs
    # Behind the first trades the first one of the rows that were in is out, then the next one of them, and so on.
    return list(zip(path, outs)) + list(zip(ins[1:], ins))


def joining_script(rows, inside):
    """Any list of one trade less than there are rows that join all of them."""
    check_trading(rows, inside, 12, 6)
    return _joining(list(range(inside)), list(range(inside, rows)))


def is_joining(rows, inside, value):
    """Whether it is a list of one trade less than there are rows that join all of them."""
    check_trading(rows, inside, 12, 6)
    if not is_list(value, rows - 1, rows - 1) or rows_in(rows, inside, value) is None:
        return False
    return len(joined([[row] for row in range(rows)] + list(value))) == 1


def told_by_trades(board, rows):
    """Any script of one trade less than there are rows, and a history that is known behind it."""
    seen_kinds(board)
    if not is_between(rows, max(board.size + 1, board.many), 12):
        raise InvalidRows(rows)
    move = hiding_trades(board)
    if move is not None:
        raise Hidden(move)
    return joining_script(rows, board.size), tuple(range(board.many)) + (0,) * (rows - board.many)


def _check_numbers(numbers):
    if not is_list(numbers, 0, 10) or not all([is_from(number, 0) for number in numbers]):
        raise InvalidNumbers(numbers)


def like_sum_places(numbers):
    """Two lists of places, without a common one, of any number of numbers, with one sum, or None."""
    places = {0: []}
    for at, number in enumerate(numbers):
        fresh = {total + number: chosen + [at] for total, chosen in places.items()}
        for total, chosen in fresh.items():
            if total in places:
                # These have no common place: without it they would have one sum, too, and have come before.
                return chosen, places[total]
        places.update(fresh)
    return None


def like_sums(numbers):
    """Two lists of places, without a common one, of numbers with one sum, or None."""
    _check_numbers(numbers)
    return like_sum_places(numbers)


def is_like_sums(numbers, value):
    """Whether it is two lists of places, without a common one, of numbers with one sum."""
    _check_numbers(numbers)
    many = len(numbers)
    if not is_tuple(value, 2) or not all([is_set(places, many, 0) for places in value]):
        return False
    one, other = value
    if len(one) + len(other) == 0 or any([place in other for place in one]):
        return False
    return sum([numbers[place] for place in one]) == sum([numbers[place] for place in other])


def _unlike_lists(total, least):
    """All ascending lists of unlike integers from `least` on with this sum."""
    if total == 0:
        return [[]]
    return [[first] + more for first in range(least, total + 1) for more in _unlike_lists(total - first, first + 1)]


def _fit(numbers, outside):
    """Whether each of the numbers but 1 gets one of so many rows that are out."""
    return len(numbers) <= outside + int(numbers[0] == 1)


def best_numbers(rows, inside):
    """Any list with the most numbers of rows that are in, for joints that tell all."""
    check_trading(rows, inside, 40, 20)
    fitting = [numbers for numbers in _unlike_lists(inside, 1) if _fit(numbers, rows - inside)]
    return max([numbers for numbers in fitting if like_sums(numbers) is None], key=len)


def fewest_trades(rows, inside):
    """The number of rows less that of these numbers."""
    return rows - len(best_numbers(rows, inside))


def telling_script(rows, inside):
    """Any list of so many trades that joins the rows to joints whose numbers have no like sums."""
    left = best_numbers(rows, inside)
    ins = list(range(inside))
    outs = list(range(inside, rows))
    script = []
    while left:
        number = left.pop(0)
        # A row alone needs no trade; the last joint gets all rows that are still out.
        taken = len(outs) if not left else int(number > 1)
        script.extend(_joining(ins[:number], outs[:taken]))
        ins, outs = ins[number:], outs[taken:]
    return script
