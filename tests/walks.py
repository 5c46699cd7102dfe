"""The words of the document, followed step by step and without the program's help, and boards to try them on.

Nothing here is imported from the package but the classes that make the arguments.
"""

import random
from itertools import combinations_with_replacement, product

from oneforone.boards import Board
from oneforone.desk import Desk
from oneforone.dials import Dials
from oneforone.lands import Land
from oneforone.scenes import Scene
from oneforone.totals import Total
from oneforone.webs import Web

LONG = 98765432109876543210


def all_bags(values, size):
    return list(combinations_with_replacement(range(values), size))


def signs_by_bag(board):
    return dict(zip(all_bags(board.many, board.size), board.signs))


def short_bags(board):
    return all_bags(board.many, board.size - 1)


def plus(bag, value):
    return tuple(sorted(list(bag) + [value]))


def all_changes(board):
    return [(a, c) for a in range(board.many) for c in range(board.many)]


def match(board, one, other):
    signs = signs_by_bag(board)
    return [(a, c) for a, c in all_changes(board) if signs[plus(one, a)] == signs[plus(other, c)]]


def all_matches(board):
    """All matches, by their two short bags."""
    signs = signs_by_bag(board)
    rows = {bag: [signs[plus(bag, value)] for value in range(board.many)] for bag in short_bags(board)}
    return {(one, other): [(a, c) for a, c in all_changes(board) if rows[one][a] == rows[other][c]]
            for one in rows for other in rows}


def is_even(board):
    matches = {tuple(each) for each in all_matches(board).values()}
    return all(one == other or not set(one) & set(other) for one in matches for other in matches)


def is_seen(board):
    signs = signs_by_bag(board)
    return all(signs[plus(bag, a)] != signs[plus(bag, c)]
               for bag in short_bags(board) for a in range(board.many) for c in range(a))


def is_sharp(board):
    return all(len(each) <= 1 or all(a == c for a, c in each) for each in all_matches(board).values())


def block_list(board):
    parts = []
    for each in all_matches(board).values():
        if each:
            touched = [part for part in parts if part & set(each)]
            parts = [part for part in parts if not part & set(each)] + [set(each).union(*touched)]
    return sorted(sorted(part) for part in parts)


def steps_of(board):
    """All steps as (bag, change, bag behind it)."""
    for bag in all_bags(board.many, board.size):
        for old in sorted(set(bag)):
            rest = list(bag)
            rest.remove(old)
            for new in range(board.many):
                yield bag, (old, new), plus(rest, new)


def all_moves(board):
    place = {change: at for at, part in enumerate(block_list(board)) for change in part}
    return [move for move in product(range(board.many), repeat=board.many)
            if len({place[value, to] for value, to in enumerate(move)}) == 1]


def is_int(value):
    return type(value) is int


def is_value(board, value):
    return is_int(value) and 0 <= value < board.many


def is_bag(board, value, size):
    return (type(value) is tuple and len(value) == size and all(is_value(board, each) for each in value)
            and list(value) == sorted(value))


def is_short(board, value):
    return is_bag(board, value, board.size - 1)


def is_change(board, value):
    return type(value) is tuple and len(value) == 2 and all(is_value(board, each) for each in value)


def shows_uneven(board, value):
    if type(value) is not tuple or len(value) != 6 or not all(is_short(board, bag) for bag in value[:4]):
        return False
    if not all(is_change(board, change) for change in value[4:]):
        return False
    one, other, third, fourth, change, beyond = value
    wide, narrow = match(board, one, other), match(board, third, fourth)
    return change in wide and beyond in wide and change in narrow and beyond not in narrow


def shows_unseen(board, value):
    if type(value) is not tuple or len(value) != 3 or not is_short(board, value[0]):
        return False
    bag, a, c = value
    if not is_value(board, a) or not is_value(board, c):
        return False
    signs = signs_by_bag(board)
    return a < c and signs[plus(bag, a)] == signs[plus(bag, c)]


def is_listed(value):
    return type(value) in (list, tuple)


def partitions(many):
    """All lists of first ranks of so many things: each way to tell them apart, once."""
    found = [[]]
    for _ in range(many):
        found = [each + [rank] for each in found for rank in range(max(each, default=-1) + 2)]
    return found


def every_board(values, size):
    """All boards of so many values and this size, renamed."""
    return [Board(values, size, signs) for signs in partitions(len(all_bags(values, size)))]


def random_boards(seed, values, size, times):
    """Boards with few and with many unlike signs."""
    rolls = random.Random(seed)
    many = len(all_bags(values, size))
    found = []
    for _ in range(times):
        signs = rolls.randint(1, many)
        found.append(Board(values, size, [rolls.randrange(signs) for _ in range(many)]))
    return found


def board_by(values, size, key):
    """The board in which the bags with one key are like."""
    keys = [key(bag) for bag in all_bags(values, size)]
    return Board(values, size, [sorted(set(keys)).index(each) for each in keys])


def sums_board(size, marks, modulus=0):
    """The board of the sums of marks, or of their rests."""
    if modulus:
        return board_by(len(marks), size, lambda bag: sum(marks[value] for value in bag) % modulus)
    return board_by(len(marks), size, lambda bag: sum(marks[value] for value in bag))


KLEIN = Dials([2, 2], [[0, 0], [0, 1], [1, 0], [1, 1]])


def klein_board(size):
    return board_by(4, size, lambda bag: tuple(sum(KLEIN.marks[value][dial] for value in bag) % 2 for dial in (0, 1)))


def first_board():
    """The board of pairs of the interface's example of moves: one move besides the first one, two circles."""
    return Board(4, 2, [0, 1, 2, 3, 0, 3, 2, 4, 5, 4])


def border():
    """An even, seen and sharp board that is no board of sums."""
    return Board(3, 3, [0, 1, 2, 3, 4, 5, 2, 6, 7, 3])


def even_boards():
    """Even boards of all sorts, of size 2 and more."""
    found = [first_board(), border()]
    for size in (2, 3, 4):
        found.append(klein_board(size))
        for marks, modulus in (([0, 1], 0), ([0, 1], 2), ([0, 1], 3), ([0, 0], 0), ([0, 1, 2], 0), ([0, 1, 2], 3),
                               ([0, 1, 3], 7), ([0, 1, 1], 0), ([0, 1, 2, 3], 4), ([0, 1, 3, 4], 0), ([0, 1, 4], 6),
                               ([0, 2, 2, 1], 3), ([5], 0), ([0, 0, 0], 0), ([0, 1, 2], 4), ([0, 1, 2, 5], 0)):
            found.append(sums_board(size, marks, modulus))
    return found


def seen_even_boards():
    return [board for board in even_boards() if is_seen(board)]


def small_boards():
    """All boards of two values up to size 4, of three of sizes 1 and 2, of one value, and others by chance."""
    found = [Board(1, size, [7]) for size in (1, 2, 3, 6)]
    for values, size in ((2, 1), (2, 2), (2, 3), (2, 4), (3, 1), (4, 1), (3, 2)):
        found.extend(every_board(values, size))
    for values, size in ((3, 3), (4, 2), (3, 4), (2, 6), (4, 3)):
        found.extend(random_boards(values * 10 + size, values, size, 8))
    return found + even_boards()


def mutants(value):
    """Values that differ from this one at one place: another thing, a list for a tuple, items left out or doubled."""
    yield from (None, True, False, "x", {}, [], (), -1, 0, 1, 2, 9)
    if type(value) in (list, tuple):
        kind = type(value)
        items = list(value)
        yield tuple(items) if kind is list else items
        for at, item in enumerate(items):
            yield kind(items[:at] + items[at + 1:])
            yield kind(items[:at] + [item] + items[at:])
            yield kind(items[:at] + items[at + 1:] + [item])
            for other in mutants(item):
                yield kind(items[:at] + [other] + items[at + 1:])


def any_values():
    """Any values: those of all kinds, nested up to eight deep."""
    plain = [None, True, False, 0, 1, -1, 2, 10 ** 19, "", "x", "0", Board(2, 2, [0, 1, 2]), Board(1, 1, [0]),
             Dials([], [[]]), Dials([0], [[0], [1]]), Total(2, [[0, 1], [1, 0]], [5, 7]),
             Scene(3, [(Board(2, 2, [0, 1, 2]), [[0, 1], [1, 2]])]), Web(2, [(0, 1, 0, 1)]),
             Land(2, [(0, 1)]), Desk(Dials([0], [[0], [1]]), 2, [0, 1], [0])]
    found = list(plain)
    for one in plain:
        found += [[one], (one,), {"a": one}, [[one]], ((one,),), [(one, one)], ((one, one),), (one, one), [one, one],
                  (one, one, one), ((), one, one), ((), (), one, one), ((one,), (one,), (one, one), (one, one)),
                  [((one,), (one,), one)], ([], [one]), ((0,), one), (one, (0, 1)), [one, {"b": [one]}]]
    deep = 0
    for turn in range(8):
        deep = [deep] if turn % 3 == 0 else (deep, deep) if turn % 3 == 1 else {"k": deep}
        found.append(deep)
    found += [((), ()), [()], [[]], ([],), ((), (), (), (), (0, 0), (0, 1)), ((), 0, 1), ((), 0, True), {}, {"a": {}}]
    return found


SAME = Dials([0, 3], [[0, 1], [2, 2], [1, 1], [2, 5]])


def random_dials(seed, times):
    rolls = random.Random(seed)
    found = []
    for _ in range(times):
        rounds = [rolls.choice([0, 2, 3, 4, 7]) for _ in range(rolls.randint(0, 3))]
        marks = [[rolls.randint(-9, 9) for _ in rounds] for _ in range(rolls.randint(1, 4))]
        found.append(Dials(rounds, marks))
    return found


def rest(number, around):
    return number - around * (number // around) if around else number


def unlike(dials):
    return len(set(dials.marks)) == dials.many


def some_dials():
    found = [KLEIN, Dials([], [[]]), Dials([0], [[5]]), Dials([7], [[0], [1], [3]]), Dials([13], [[0], [1], [3], [9]]),
             Dials([4], [[0], [1], [2]]), Dials([0], [[0], [1], [2], [3]]), Dials([0], [[LONG], [-LONG], [3]])]
    return found + random_dials(61, 60)
