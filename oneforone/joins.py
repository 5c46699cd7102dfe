"""Groups of things that are joined, one after another, by what they have in common."""


def joined(groups):
    """The ascending list of the ascending lists of things, where the things of a group are in one list."""
    leads = {}
    for group in groups:
        for thing in group:
            lead = leads.setdefault(group[0], group[0])
            old = leads.setdefault(thing, lead)
            if old != lead:
                leads = {other: lead if leads[other] == old else leads[other] for other in leads}
    found = {}
    for thing in sorted(leads):
        found.setdefault(leads[thing], []).append(thing)
    return list(found.values())


def have_common(one, other):
    """Whether some thing is in both lists."""
    return any([thing in other for thing in one])
