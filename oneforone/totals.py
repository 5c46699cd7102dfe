"""Totals: machines that go from stand to stand with each thing, and show the sign of the stand."""

from oneforone.checks import are_between, are_whole, check_values, is_list
from oneforone.dials import Dials, rests_on
from oneforone.errors import InvalidDials, InvalidOther, InvalidSigns, InvalidSteps, InvalidThings
from oneforone.machines import first_things, parting, stand_behind


def _are_steps(values, steps):
    """Whether it is a list of 1 to 7 lists of a stand for each value."""
    if not is_list(steps, 1, 7):
        return False
    return all([is_list(each, values, values) and are_between(each, 0, len(steps) - 1) for each in steps])


class Total:
    """A number of values, for each stand the stands to which the values lead, and for each stand its sign."""

    def __init__(self, values, steps, signs):
        check_values(values)
        if not _are_steps(values, steps):
            raise InvalidSteps(steps)
        if not is_list(signs, len(steps), len(steps)) or not are_whole(signs):
            raise InvalidSigns(signs)
        self.many = values
        self.steps = tuple([tuple(each) for each in steps])
        self.signs = tuple(signs)

    def __len__(self):
        return len(self.signs)

    def __eq__(self, other):
        return (isinstance(other, Total) and self.many == other.many and self.steps == other.steps
                and self.signs == other.signs)

    def stand(self, things):
        """The stand to which the things come."""
        if not is_list(things, 0, 60) or not are_between(things, 0, self.many - 1):
            raise InvalidThings(things)
        return stand_behind(self, things)

    def sign(self, things):
        """The sign of the stand to which the things come."""
        return self.signs[self.stand(things)]


def least(total):
    """The total with as few stands as possible that has the same sign for all things."""
    places = {}
    kept = []
    for stand in first_things(total):
        same = [place for place, lead in enumerate(kept) if parting(total, total, lead, stand) is None]
        places[stand] = same[0] if same else len(kept)
        if not same:
            kept.append(stand)
    steps = [[places[after] for after in total.steps[stand]] for stand in kept]
    return Total(total.many, steps, [total.signs[stand] for stand in kept])


def parting_things(one, other):
    """The least of the shortest things with unlike signs in two totals, or None."""
    if not isinstance(other, Total) or other.many != one.many:
        raise InvalidOther(other)
    return parting(one, other, 0, 0)


def _count_stands(rounds):
    """The product of the rounds."""
    many = 1
    for around in rounds:
        many = many * around
    return many


def _all_rests(rounds):
    """The ascending list of all tuples of a rest for each dial."""
    found = [()]
    for around in rounds:
        found = [rests + (rest,) for rests in found for rest in range(around)]
    return found


def total_of(dials):
    """The total whose stands are all tuples of a rest for each dial, to which the values add their marks."""
    # The product is 0 if a dial is endless.
    if not isinstance(dials, Dials) or not 1 <= _count_stands(dials.rounds) <= 7:
        raise InvalidDials(dials)
    stands = _all_rests(dials.rounds)
    places = {rests: place for place, rests in enumerate(stands)}
    steps = []
    for rests in stands:
        after = [rests_on(dials.rounds, [a + b for a, b in zip(rests, marks)]) for marks in dials.marks]
        steps.append([places[each] for each in after])
    return Total(dials.many, steps, list(range(len(stands))))
