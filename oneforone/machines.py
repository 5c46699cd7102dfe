"""Going through the stands of totals."""


def stand_behind(total, things, start=0):
    """The stand to which the things lead from a stand."""
    stand = start
    for value in things:
        stand = total.steps[stand][value]
    return stand


def signs_behind(total, stand):
    """The tuple of the signs of the stands to which each value leads."""
    return tuple([total.signs[after] for after in total.steps[stand]])


def first_things(total):
    """For each stand that things come to, in the order in which they do, the least of the shortest such things."""
    found = {0: ()}
    waiting = [0]
    while waiting:
        stand = waiting.pop(0)
        for value, after in enumerate(total.steps[stand]):
            if after not in found:
                found[after] = found[stand] + (value,)
                waiting.append(after)
    return found


def parting(one, other, here, there):
    """The least of the shortest things that lead from two stands of two totals to unlike signs, or None."""
    found = {(here, there): ()}
    waiting = [(here, there)]
    while waiting:
        pair = waiting.pop(0)
        if one.signs[pair[0]] != other.signs[pair[1]]:
            return found[pair]
        for value, after in enumerate(zip(one.steps[pair[0]], other.steps[pair[1]])):
            if after not in found:
                found[after] = found[pair] + (value,)
                waiting.append(after)
    return None


def equal_sizes(total):
    """For each pair of stands to which equally many things come, two such tuples of things."""
    found = {(0, 0): ((), ())}
    waiting = [(0, 0)]
    while waiting:
        pair = waiting.pop(0)
        one, other = found[pair]
        for value, here in enumerate(total.steps[pair[0]]):
            for beyond, there in enumerate(total.steps[pair[1]]):
                if (here, there) not in found:
                    found[here, there] = (one + (value,), other + (beyond,))
                    waiting.append((here, there))
    return found
