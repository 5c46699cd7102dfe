"""Totals, followed step by step without the program's help, and totals to try it on."""

import random
from functools import lru_cache
from itertools import product

from oneforone.totals import Total
from tests.walks import all_bags

ODD = Total(2, [[0, 1], [1, 0]], [5, 7])
SOME = Total(2, [[0, 1], [1, 1]], [5, 7])
LAST = Total(2, [[0, 1], [0, 1]], [5, 7])


def stand(total, things, start=0):
    at = start
    for value in things:
        at = total.steps[at][value]
    return at


def sign(total, things):
    return total.signs[stand(total, things)]


def all_things(values, size):
    return list(product(range(values), repeat=size))


def classes(total):
    """For each stand the number of its class: stands of one class have the same signs behind all things."""
    found = [sorted(set(total.signs)).index(each) for each in total.signs]
    while True:
        keys = [(found[at],) + tuple(found[after] for after in total.steps[at]) for at in range(len(total.signs))]
        finer = [sorted(set(keys)).index(key) for key in keys]
        if len(set(finer)) == len(set(found)):
            return found
        found = finer


def come_to(total):
    """The stands that things come to."""
    found = {0}
    while True:
        more = found | {after for at in found for after in total.steps[at]}
        if more == found:
            return found
        found = more


def is_orderless(total):
    kinds = classes(total)
    return all(kinds[stand(total, (a, b), at)] == kinds[stand(total, (b, a), at)]
               for at in come_to(total) for a in range(total.many) for b in range(a))


def behind(total, size):
    """The stands to which lists of so many things come."""
    found = {0}
    for _ in range(size):
        found = {after for at in found for after in total.steps[at]}
    return found


def signs_of_bags(total, size):
    return [sign(total, bag) for bag in all_bags(total.many, size)]


def unary(rolls, most):
    """A machine of one value: the stand behind each stand, a tail that leads into a ring."""
    many = rolls.randint(1, most)
    return list(range(1, many)) + [rolls.randrange(many)]


def product_total(rolls, values):
    """A total that goes on with each value in another place; orderless whatever its signs."""
    while True:
        parts = [unary(rolls, 4) for _ in range(values)]
        stands = list(product(*[range(len(part)) for part in parts]))
        if len(stands) <= 7:
            break
    steps = []
    for at in stands:
        row = []
        for value in range(values):
            after = list(at)
            after[value] = parts[value][at[value]]
            row.append(stands.index(tuple(after)))
        steps.append(row)
    signs = [rolls.randrange(rolls.randint(1, 4)) for _ in stands]
    return Total(values, steps, signs)


def powers_total(rolls, values):
    """A total in which each value goes so many steps along one path."""
    path = unary(rolls, 7)
    times = [rolls.randrange(8) for _ in range(values)]
    steps = []
    for at in range(len(path)):
        row = []
        for value in range(values):
            after = at
            for _ in range(times[value]):
                after = path[after]
            row.append(after)
        steps.append(row)
    return Total(values, steps, [rolls.randrange(rolls.randint(1, 5)) for _ in path])


def disguised(rolls, total):
    """A total with the same signs of all things: with a copy of a stand, a stand that nothing comes to, renumbered."""
    steps = [list(row) for row in total.steps]
    signs = list(total.signs)
    if len(steps) < 7:
        twin = rolls.randrange(len(steps))
        steps.append(list(steps[twin]))
        signs.append(signs[twin])
        for row in steps:
            for value, after in enumerate(row):
                if after == twin and rolls.random() < 0.5:
                    row[value] = len(steps) - 1
    if len(steps) < 7:
        steps.append([rolls.randrange(len(steps) + 1) for _ in range(total.many)])
        signs.append(rolls.randrange(9))
    order = [0] + rolls.sample(range(1, len(steps)), len(steps) - 1)
    places = {old: new for new, old in enumerate(order)}
    return Total(total.many, [[places[after] for after in steps[old]] for old in order], [signs[old] for old in order])


def random_total(rolls, values, most=7):
    many = rolls.randint(1, most)
    signs = rolls.randint(1, 3)
    return Total(values, [[rolls.randrange(many) for _ in range(values)] for _ in range(many)],
                 [rolls.randrange(signs) for _ in range(many)])


def modular(rounds, marks, signs):
    """The total of rests, with these signs in the order of the tuples of rests."""
    stands = list(product(*[range(around) for around in rounds]))
    steps = [[stands.index(tuple((a + b) % around for a, b, around in zip(at, mark, rounds))) for mark in marks]
             for at in stands]
    return Total(len(marks), steps, list(signs))


@lru_cache(None)
def orderless_totals():
    rolls = random.Random(81)
    found = [ODD, SOME, Total(1, [[0]], [3]), Total(4, [[0] * 4], [0]), Total(1, [[1], [2], [0]], [0, 1, 0]),
             modular([7], [[0], [1], [3], [5]], range(7)), modular([2, 3], [[0, 0], [1, 1], [0, 2]], range(6)),
             modular([2, 2], [[0, 0], [0, 1], [1, 0], [1, 1]], [5, -6, 7, 8]), modular([3], [[1], [1]], [0, 1, 2]),
             modular([4], [[0], [1], [2]], [0, 1, 0, 1]), modular([5], [[0], [2]], [0, 0, 1, 1, 2]),
             modular([7], [[2]], [0, 0, 1, 0, 1, 2, 2])]
    for values in (1, 2, 3, 4):
        for _ in range(12):
            found.append(product_total(rolls, values))
            found.append(powers_total(rolls, values))
    found += [disguised(rolls, total) for total in found]
    for _ in range(400):
        total = random_total(rolls, 2, 4)
        kinds = classes(total)
        if is_orderless(total) and len({kinds[at] for at in come_to(total)}) > 1:
            found.append(total)
    return tuple(found)


def any_totals():
    rolls = random.Random(82)
    found = list(orderless_totals()[::4]) + [LAST]
    for values in (1, 2, 3, 4):
        found += [random_total(rolls, values) for _ in range(25)]
    return found


def disordered_totals():
    return [total for total in any_totals() if not is_orderless(total)]


def late_disorder(steps_ahead):
    """A total in which the order tells only behind so many values 0."""
    path = [[at + 1, at] for at in range(steps_ahead)]
    first = steps_ahead
    return Total(2, path + [[first + 1, first + 2], [first + 1, first + 1], [first + 2, first + 2]],
                 [0] * (steps_ahead + 1) + [1, 2])
