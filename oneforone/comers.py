"""What comers and goers give away: totals that are not clear, totals that one value more breaks, and marks."""

from oneforone.bags import added, bags
from oneforone.checks import are_between, check_size, is_bag, is_between, is_tuple
from oneforone.failures import Broken
from oneforone.machines import equal_sizes, signs_behind, stand_behind
from oneforone.mixtures import dials_of_gaps, gap_of
from oneforone.orders import check_orderless


def _check(total, size):
    check_size(size, 1, 6)
    check_orderless(total)


def unclear(total, size):
    """Two bags of one sign and two unlike values that make them like again, or None if there are none."""
    _check(total, size)
    stands = [(bag, stand_behind(total, bag)) for bag in bags(total.many, size - 1)]
    for one, here in stands:
        for other, there in stands:
            if total.signs[here] == total.signs[there]:
                for a, sign in enumerate(signs_behind(total, here)):
                    for c, beyond in enumerate(signs_behind(total, there)):
                        if a != c and sign == beyond:
                            return one, other, a, c
    return None


def _sign_with(total, bag, value):
    """The sign of the bag with the value more."""
    return total.signs[stand_behind(total, (*bag, value))]


def is_unclear(total, size, value):
    """Whether it is two bags of one sign and two unlike values that make them like again."""
    _check(total, size)
    if not is_tuple(value, 4) or not all([is_bag(bag, total.many, size - 1, size - 1) for bag in value[:2]]):
        return False
    one, other, a, c = value
    if not are_between((a, c), 0, total.many - 1) or a == c:
        return False
    return total.sign(one) == total.sign(other) and _sign_with(total, one, a) == _sign_with(total, other, c)


def _bag_of(things):
    return tuple(sorted(things))


def broken(total):
    """Two bags, as many values, and a value that makes like ones unlike or unlike ones like, or None."""
    check_orderless(total)
    for (here, there), (one, other) in equal_sizes(total).items():
        like = total.signs[here] == total.signs[there]
        for value, (sign, beyond) in enumerate(zip(signs_behind(total, here), signs_behind(total, there))):
            if like != (sign == beyond):
                return "comes" if like else "goes", _bag_of(one), _bag_of(other), value
    return None


def is_broken(total, value):
    """Whether it is two bags of as many values that break the total by one value more."""
    check_orderless(total)
    if not is_tuple(value, 4) or value[0] not in ("comes", "goes"):
        return False
    word, one, other, more = value
    if not all([is_bag(bag, total.many, 0, 60) for bag in (one, other)]) or len(one) != len(other):
        return False
    if not is_between(more, 0, total.many - 1):
        return False
    like = total.sign(one) == total.sign(other)
    return like == (word == "comes") and like != (_sign_with(total, one, more) == _sign_with(total, other, more))


def marks_of(total):
    """Any round dials whose sums are equal for just the bags of one size and one sign, whatever the size."""
    witness = broken(total)
    if witness is not None:
        raise Broken(witness)
    # The sums are those of a group of at most 7 elements, whose laws all show among bags of 7 values.
    large = sorted(set([added(bag, value) for bag in bags(total.many, 6) for value in range(total.many)]))
    first = {}
    gaps = []
    for bag in large:
        known = first.setdefault(total.sign(bag), bag)
        gaps.append(gap_of(bag, known, total.many))
    return dials_of_gaps(gaps, total.many)
