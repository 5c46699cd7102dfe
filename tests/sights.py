"""Scenes, looked at by the words of the document and without the program's help, and scenes to try it on."""

import random
from itertools import product

from oneforone.boards import Board, count_board
from oneforone.dials import Dials
from oneforone.scenes import Scene
from tests import runs
from tests.runs import orderless_totals
from tests.walks import KLEIN, all_bags, all_matches, block_list, is_even, is_seen, is_sharp, rest, signs_by_bag, sums_board


def sign_of(source, bag):
    if isinstance(source, Board):
        return signs_by_bag(source)[bag]
    if isinstance(source, Dials):
        return tuple(rest(sum(source.marks[value][dial] for value in bag), around)
                     for dial, around in enumerate(source.rounds))
    return runs.sign(source, bag)


def lot_sign(source, lot, history):
    return sign_of(source, tuple(sorted(history[stint] for stint in lot)))


def shown(scene, history):
    """All signs that all readers are shown, reader by reader."""
    return [tuple(lot_sign(source, lot, history) for lot in asks) for source, asks in scene.readers]


def all_histories(scene):
    return list(product(range(scene.many), repeat=scene.stints))


def alike_lists(scene):
    """For each history the ascending list of those that are alike to it, by a search of all of them."""
    tables = [{bag: sign_of(source, bag) for size in {len(lot) for lot in asks} for bag in all_bags(scene.many, size)}
              for source, asks in scene.readers]
    found = {}
    keys = {}
    for history in all_histories(scene):
        keys[history] = tuple(table[tuple(sorted([history[stint] for stint in lot]))]
                              for table, (_, asks) in zip(tables, scene.readers) for lot in asks)
        found.setdefault(keys[history], []).append(history)
    return {history: found[key] for history, key in keys.items()}


def board_at(scene, reader, size):
    source = scene.readers[reader][0]
    if isinstance(source, Board):
        return source
    signs = [sign_of(source, bag) for bag in all_bags(scene.many, size)]
    return Board(scene.many, size, [sorted(set(signs)).index(sign) for sign in signs])


def asks_by_link(scene, reader):
    """For each link, in both directions, all tuples of two asks that link the stints."""
    found = {}
    lots = [set(lot) for lot in scene.readers[reader][1]]
    for i, one in enumerate(lots):
        for j, other in enumerate(lots):
            if len(one) == len(other) and len(one - other) == 1:
                (p,), (q,) = one - other, other - one
                found.setdefault((len(one), p, q), []).append((i, j))
    return found


def links(scene, reader):
    return sorted(link for link in asks_by_link(scene, reader) if link[1] < link[2])


def parts(things, pairs):
    """The finest parts of the things such that each pair lies within one part."""
    found = {thing: {thing} for thing in things}
    for one, other in pairs:
        union = found[one] | found[other]
        for thing in union:
            found[thing] = union
    return sorted({tuple(sorted(part)) for part in found.values()})


def strands(scene, reader, size):
    pairs = [(p, q) for linked, p, q in links(scene, reader) if linked == size]
    return [part for part in parts(range(scene.stints), pairs) if len(part) > 1]


def joints(scene):
    pairs = [(p, q) for reader in range(len(scene.readers)) for _, p, q in links(scene, reader)]
    return parts(range(scene.stints), pairs)


def pieces(scene, reader):
    lots = scene.readers[reader][1]
    pairs = [(i, j) for i, one in enumerate(lots) for j, other in enumerate(lots)
             if one == other or len(one) == len(other) and len(set(one) - set(other)) == 1]
    return parts(range(len(lots)), pairs)


def linked_sizes(scene):
    return sorted({(reader, link[0]) for reader in range(len(scene.readers)) for link in links(scene, reader)})


def first_not(scene, judge):
    """The least tuple of a reader and a size with a link at which the board is not so, or None."""
    wrong = [at for at in linked_sizes(scene) if not judge(board_at(scene, *at))]
    return wrong[0] if wrong else None


def even_readers(scene):
    return first_not(scene, is_even) is None


def seen_readers(scene):
    return first_not(scene, lambda board: is_even(board) and is_seen(board)) is None


def sharp_readers(scene):
    return first_not(scene, is_sharp) is None


def kind_lists(scene, reader, size):
    return block_list(board_at(scene, reader, size))


def in_one(kinds, one, other):
    return any(one in kind and other in kind for kind in kinds)


def boards_of(values, size):
    """Even and seen boards, and others."""
    found = [count_board(values, size)]
    for marks, modulus in (([0, 1, 2, 3], 0), ([0, 1, 2, 3], values + 1), ([0, 1, 3, 9], 13), ([0, 1, 1, 2], 0)):
        found.append(sums_board(size, marks[:values], modulus))
    if values > 1:
        found.append(sums_board(size, [0, 1, 2, 3][:values], values))
    return found


def dials_of(values):
    found = [Dials([0], [[0], [1], [2], [5]][:values]), Dials([4], [[0], [1], [2], [3]][:values]),
             Dials([2, 0], [[0, 0], [1, 0], [0, 1], [1, 1]][:values]), Dials(KLEIN.rounds, KLEIN.marks[:values])]
    return found


def totals_of(values):
    return [total for total in orderless_totals() if total.many == values]


def some_lots(rolls, source, stints):
    """Lots of which many are equal but for one stint."""
    if isinstance(source, Board):
        sizes = [source.size] if source.size <= stints else []
    else:
        sizes = [size for size in rolls.sample(range(4), 2) if size <= stints]
    found = []
    for size in sizes:
        lot = rolls.sample(range(stints), size)
        for _ in range(rolls.randint(0, 4)):
            found.append(sorted(lot))
            if size and size < stints:
                lot[rolls.randrange(size)] = rolls.choice([stint for stint in range(stints) if stint not in lot])
            if rolls.random() < 0.2:
                lot = rolls.sample(range(stints), size)
    return found


def random_scene(rolls, values, stints, readers):
    given = []
    for _ in range(readers):
        sort = rolls.randrange(4)
        if sort < 2:
            source = rolls.choice(boards_of(values, rolls.randint(1, min(3, stints))))
        else:
            source = rolls.choice(dials_of(values) if sort == 2 else totals_of(values))
        given.append((source, some_lots(rolls, source, stints)))
    return Scene(stints, given)


def random_scenes(seed, times, values=(1, 2, 3), most_stints=5, good=None):
    """Scenes of few stints, of all sorts of sources; only those that are good."""
    rolls = random.Random(seed)
    found = []
    while len(found) < times:
        scene = random_scene(rolls, rolls.choice(values), rolls.randint(1, most_stints), rolls.randint(1, 3))
        if good is None or good(scene):
            found.append(scene)
    return found


def some_histories(scene, seed, times):
    rolls = random.Random(seed)
    return [tuple(rolls.randrange(scene.many) for _ in range(scene.stints)) for _ in range(times)]


LINE = Scene(4, [(count_board(2, 2), [[0, 1], [1, 2], [2, 3]])])
UNEVEN = Scene(4, [(Board(2, 3, [0, 1, 1, 0]), [[0, 1, 2], [1, 2, 3]])])
UNSEEN = Scene(3, [(Dials([0], [[1], [1]]), [[0], [1], [0, 1], [0, 2]])])
