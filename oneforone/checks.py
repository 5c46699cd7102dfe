"""What arguments and judged values have to be: integers, lists, bags, changes and tuples of them."""

from oneforone.errors import InvalidBag, InvalidChange, InvalidSize, InvalidValue, InvalidValues


def is_whole(value):
    """Whether it is an integer; True and False are none."""
    return isinstance(value, int) and not isinstance(value, bool)


def is_between(value, least, most):
    """Whether it is an integer from `least` to `most`."""
    return is_whole(value) and least <= value <= most


def is_from(value, least):
    """Whether it is an integer from `least` on."""
    return is_whole(value) and least <= value


def is_list(value, least=0, most=None):
    """Whether it is a list, or a tuple in its place, of `least` to `most` items; None is no limit."""
    return isinstance(value, (list, tuple)) and least <= len(value) and (most is None or len(value) <= most)


def is_tuple(value, size):
    """Whether it is a tuple of so many items."""
    return isinstance(value, tuple) and len(value) == size


def are_whole(items):
    """Whether each of the items is an integer."""
    return all([is_whole(item) for item in items])


def are_between(items, least, most):
    """Whether each of the items is an integer from `least` to `most`."""
    return all([is_between(item, least, most) for item in items])


def is_bag(value, values, least, most):
    """Whether it is a bag of `least` to `most` values, each of them below `values`."""
    if not isinstance(value, tuple) or not least <= len(value) <= most:
        return False
    before = 0
    for item in value:
        if not is_between(item, before, values - 1):
            return False
        before = item
    return True


def is_set(value, below, least=1, most=None):
    """Whether it is an ascending list of `least` to `most` unlike integers from 0 on, each of them under `below`."""
    if not is_list(value, least, most):
        return False
    after = 0
    for item in value:
        if not is_between(item, after, below - 1):
            return False
        after = item + 1
    return True


def is_full_bag(board, value):
    """Whether it is a bag of the board."""
    return is_bag(value, board.many, board.size, board.size)


def is_short_bag(board, value):
    """Whether it is a short bag of the board."""
    return is_bag(value, board.many, board.size - 1, board.size - 1)


def is_change(board, value):
    """Whether it is a change of the board."""
    return is_tuple(value, 2) and are_between(value, 0, board.many - 1)


def unchanged(change):
    """Whether the two values of the change are equal."""
    return change[0] == change[1]


def is_form(board, value, bags, changes):
    """Whether it is a tuple of so many short bags and, behind them, so many changes of the board."""
    if not is_tuple(value, bags + changes):
        return False
    right = [is_short_bag(board, item) for item in value[:bags]]
    return all(right + [is_change(board, item) for item in value[bags:]])


def check_values(values):
    """Raise InvalidValues unless it is a number of values."""
    if not is_between(values, 1, 4):
        raise InvalidValues(values)


def check_size(size, least, most):
    """Raise InvalidSize unless it is an integer from `least` to `most`."""
    if not is_between(size, least, most):
        raise InvalidSize(size)


def check_value(value, values):
    """Raise InvalidValue unless it is one of so many values."""
    if not is_between(value, 0, values - 1):
        raise InvalidValue(value)


def check_full_bag(board, bag):
    """Raise InvalidBag unless it is a bag of the board."""
    if not is_full_bag(board, bag):
        raise InvalidBag(bag)


def check_short_bag(board, bag):
    """Raise InvalidBag unless it is a short bag of the board."""
    if not is_short_bag(board, bag):
        raise InvalidBag(bag)


def check_change(board, change):
    """Raise InvalidChange unless it is a change of the board."""
    if not is_change(board, change):
        raise InvalidChange(change)
