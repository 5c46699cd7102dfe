"""Live tables, followed by the words of the document and without the program's help."""

import random

from oneforone.dials import Dials
from oneforone.totals import Total
from tests.runs import ODD, SOME

STEPS = Dials([0], [[0], [1]])
WORDS = {"renew": 1, "trade": 2, "come": 1, "go": 1}


def is_possible(present, deed):
    word, row = deed[0], deed[1]
    if word == "trade":
        return row in present and deed[2] not in present
    if word == "come":
        return row not in present and len(present) <= 5
    return row in present


def rows_behind(present, deed):
    """The rows that are in behind a possible deed."""
    if deed[0] == "trade":
        return present - {deed[1]} | {deed[2]}
    if deed[0] == "come":
        return present | {deed[1]}
    return present - {deed[1]} if deed[0] == "go" else present


def stints_of(rows, deeds):
    """The row of each stint."""
    return list(range(rows)) + [deed[1] for deed in deeds if deed[0] == "renew"]


def last_stint(rows, deeds, row):
    return max(stint for stint, each in enumerate(stints_of(rows, deeds)) if each == row)


def asks(rows, inside, deeds):
    """The lots that are asked, or None if a deed is not possible."""
    present = set(inside)
    found = []
    for at in range(len(deeds) + 1):
        found.append(tuple(sorted(last_stint(rows, deeds[:at], row) for row in present)))
        if at < len(deeds):
            if not is_possible(present, deeds[at]):
                return None
            present = rows_behind(present, deeds[at])
    return tuple(found)


def all_deeds(rows):
    found = [(word, row) for word in ("renew", "come", "go") for row in range(rows)]
    return found + [("trade", out, into) for out in range(rows) for into in range(rows)]


def random_deeds(rolls, rows, inside, many, most_stints=12, words=("renew", "trade", "come", "go")):
    """So many deeds, fewer if none is possible, each possible when its turn comes."""
    present = set(inside)
    found = []
    for _ in range(many):
        possible = [deed for deed in all_deeds(rows) if deed[0] in words and is_possible(present, deed)
                    and (deed[0] != "renew" or len(stints_of(rows, found)) < most_stints)]
        if not possible:
            break
        word = rolls.choice(sorted({deed[0] for deed in possible}))
        deed = rolls.choice([deed for deed in possible if deed[0] == word])
        present = rows_behind(present, deed)
        found.append(deed)
    return found


def random_table(rolls, most_rows=4, most_deeds=5, most_stints=6, words=("renew", "trade", "come", "go")):
    """A tuple (rows, inside, deeds)."""
    rows = rolls.randint(1, most_rows)
    inside = sorted(rolls.sample(range(rows), rolls.randint(0, min(rows, 6))))
    return rows, inside, random_deeds(rolls, rows, inside, rolls.randint(0, most_deeds), most_stints, words)


def sources():
    return [STEPS, Dials([3], [[0], [1], [2]]), Dials([0, 2], [[0, 1], [1, 0]]), Dials([], [[]]), Dials([4], [[0], [2], [3]]),
            ODD, SOME, Total(1, [[0]], [3])]


def random_tables(seed, times, **more):
    rolls = random.Random(seed)
    return [random_table(rolls, **more) for _ in range(times)]
