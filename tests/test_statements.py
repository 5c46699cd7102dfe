"""The main statements, each held at drawn boards, scenes and webs: the answers of the package against searches."""

import random
import unittest
from itertools import combinations, product

from oneforone.adding import adding
from oneforone.blocks import blocks, even, seen, sharp
from oneforone.boards import tells_no_less
from oneforone.breakers import uneven_table
from oneforone.counters import is_counter, same_kind
from oneforone.failures import NoMove
from oneforone.links import joints, pieces, strands
from oneforone.moves import moves
from oneforone.numbers import telling_number
from oneforone.openings import tells_all
from oneforone.renewing import alike_by_renewing
from oneforone.rings import fall, rise
from oneforone.scenes import alike
from oneforone.shadows import shadow
from oneforone.spans import level, span
from oneforone.tables import renew_rows, renew_scene
from oneforone.twos import even_twos, rests
from oneforone.webs import alike_fillings, is_flow
from tests import nets, sights
from tests.sights import alike_lists, random_scenes
from tests.walks import all_changes, even_boards, every_board, seen_even_boards, small_boards, steps_of, signs_by_bag


def drawn_scenes(seed, times, good=None):
    found = random_scenes(seed, times, most_stints=5, good=good)
    return [scene for scene in found if scene.many ** scene.stints <= 250]


def strand_list(scene):
    """All tuples of a reader, a size and a strand."""
    return [(reader, size, strand) for reader in range(len(scene.readers))
            for size in range(1, 7) for strand in strands(scene, reader, size)]


def block_places(scene):
    """For each strand the dict of the place of the block of each change."""
    return [(strand, {change: at for at, block in enumerate(blocks(scene.board(reader, size))) for change in block})
            for reader, size, strand in strand_list(scene)]


def in_one_block(places, one, other):
    """Whether the changes of each strand lie in one block."""
    for strand, table in places:
        found = {table.get((one[stint], other[stint])) for stint in strand}
        if len(found) > 1 or None in found:
            return False
    return True


class Histories(unittest.TestCase):
    def test_changes_of_a_strand_lie_in_one_block(self):
        told = set()
        for scene in drawn_scenes(81, 120):
            places = block_places(scene)
            told.add(sights.even_readers(scene))
            for history, others in alike_lists(scene).items():
                for other in others:
                    self.assertTrue(in_one_block(places, history, other))
        self.assertEqual(told, {True, False})

    def test_alike_exactly_by_kinds_and_one_ask_of_each_piece(self):
        told = set()
        for scene in drawn_scenes(82, 60, sights.even_readers):
            places = block_places(scene)
            asks = [(reader, piece[-1]) for reader in range(len(scene.readers)) for piece in pieces(scene, reader)]
            for one in sights.some_histories(scene, 82, 4):
                for other in sights.all_histories(scene):
                    same = all(scene.sign(reader, ask, one) == scene.sign(reader, ask, other) for reader, ask in asks)
                    told.add((alike(scene, one, other), same))
                    self.assertEqual(alike(scene, one, other), same and in_one_block(places, one, other))
        self.assertEqual(told, {(True, True), (False, True), (False, False)})

    def test_a_table_shows_that_this_fails_for_other_boards(self):
        told = 0
        for board in small_boards():
            if not even(board):
                told += 1
                _, _, third, fourth = uneven_table(board)
                scene = renew_scene(board, board.size, [0])
                self.assertTrue(in_one_block(block_places(scene), third, fourth))
                self.assertEqual(scene.sign(0, 0, third), scene.sign(0, 0, fourth))
                self.assertEqual(len(pieces(scene, 0)), 1)
                self.assertFalse(alike(scene, third, fourth))
        self.assertGreater(told, 100)

    def test_a_value_settles_its_joint(self):
        for scene in drawn_scenes(83, 80, sights.seen_readers):
            found = joints(scene)
            for history, others in alike_lists(scene).items():
                for other in others:
                    for joint in found:
                        kept = {history[stint] == other[stint] for stint in joint}
                        self.assertEqual(len(kept), 1)

    def test_joints_of_sharp_readers(self):
        told = set()
        lone = [board for board in small_boards() if board.size > 1 and sharp(board) and not even(board)]
        scenes = [renew_scene(board, 4, script) for board in lone for script in ([0], [0, 1, 0], [1, 1, 2, 3])]
        for scene in drawn_scenes(84, 80, sights.sharp_readers) + scenes:
            told.add(sights.even_readers(scene))
            found = joints(scene)
            for history, others in alike_lists(scene).items():
                for joint in found:
                    known = all(other[stint] == history[stint] for other in others for stint in joint)
                    self.assertTrue(known or all(len({other[stint] for stint in joint}) == 1 for other in others))
        self.assertEqual(told, {True, False})

    def test_strands_that_show_enough_values_are_known(self):
        told = 0
        for scene in drawn_scenes(85, 80):
            numbers = [(strand, telling_number(scene.board(reader, size))) for reader, size, strand in strand_list(scene)]
            for history, others in alike_lists(scene).items():
                for strand, number in numbers:
                    if number is not None and len({history[stint] for stint in strand}) >= number:
                        told += len(others) > 1
                        self.assertTrue(all(other[stint] == history[stint] for other in others for stint in strand))
        self.assertGreater(told, 0)


def partitions(things):
    """All ways to part the things."""
    if not things:
        return [[]]
    found = []
    for parts in partitions(things[1:]):
        found.append([[things[0]]] + parts)
        found += [parts[:at] + [[things[0]] + part] + parts[at + 1:] for at, part in enumerate(parts)]
    return found


def counts(board, parts):
    """Whether the next sign depends on the sign and the part of the step alone, and two signs tell the part."""
    place = {change: at for at, part in enumerate(parts) for change in part}
    signs = signs_by_bag(board)
    after, between = {}, {}
    for bag, change, behind in steps_of(board):
        here, there, part = signs[bag], signs[behind], place[change]
        if after.setdefault((here, part), there) != there or between.setdefault((here, there), part) != part:
            return False
    return True


class Boards(unittest.TestCase):
    def test_changes_and_values_change_places(self):
        for board in even_boards() + [board for board in small_boards() if board.size > 1 and even(board)]:
            for (a, c), (b, d) in product(all_changes(board), repeat=2):
                self.assertEqual(same_kind(board, (a, c), (b, d)), same_kind(board, (a, b), (c, d)))

    def test_one_parting_exactly_for_even_boards(self):
        for size in (2, 3, 4):
            for board in every_board(2, size):
                right = [parts for parts in partitions(all_changes(board)) if counts(board, parts)]
                self.assertEqual(len(right), int(even(board)))
                for parts in right:
                    self.assertEqual(sorted(sorted(part) for part in parts), blocks(board))
                    self.assertTrue(is_counter(board, parts))

    def test_kinds_that_are_defined_on_all_values_are_moves(self):
        for board in seen_even_boards():
            whole = [dict(kind) for kind in blocks(board) if {a for a, _ in kind} == set(range(board.many))]
            found = sorted(tuple(kind[value] for value in range(board.many)) for kind in whole)
            self.assertEqual(found, moves(board))
            for one, other in product(found, repeat=2):
                both = tuple(other[one[value]] for value in range(board.many))
                self.assertIn(both, found)
                self.assertEqual(both, tuple(one[other[value]] for value in range(board.many)))
            self.assertEqual([move for move in found if any(move[value] == value for value in range(board.many))], found[:1])

    def test_tables_that_are_only_renewed(self):
        told = set()
        rolls = random.Random(86)
        for board in seen_even_boards():
            script = [rolls.randrange(board.size) for _ in range(board.many + 1)]
            while board.many ** (board.size + len(script)) > 3000:
                script.pop()
            scene = renew_scene(board, board.size, script)
            hidden = len(moves(board)) > 1
            try:
                sums = bool(adding(board))
            except NoMove:
                sums = False
            numbers = set()
            for history, others in alike_lists(scene).items():
                known = [len({other[stint] for other in others}) == 1 for stint in range(scene.stints)]
                numbers.add(len(others))
                self.assertFalse(hidden and any(known))
                for stints in renew_rows(board.size, script):
                    if not hidden and {history[stint] for stint in stints} == set(range(board.many)):
                        told.add("known")
                        self.assertTrue(all(known[stint] for stint in stints))
            self.assertLessEqual(max(numbers), board.many ** (board.size - 1))
            self.assertEqual(alike_by_renewing(board) is not None, sums)
            if sums:
                self.assertEqual(numbers, {board.many ** (board.size - 1)})
            told |= {hidden, ("sums", sums)}
        self.assertEqual(told, {True, False, "known", ("sums", True), ("sums", False)})

    def test_one_finest_even_board_below(self):
        told = set()
        for size in (2, 3, 4):
            evens = [board for board in every_board(2, size) if even(board)]
            for board in every_board(2, size):
                found = shadow(board)
                below = [other for other in evens if tells_no_less(board, other)]
                self.assertIn(found, below)
                self.assertTrue(all(tells_no_less(found, other) for other in below))
                # With two values it shows the number of values 1, or a rest of it; by 1 all rests are 0.
                self.assertIn(found, even_twos(size) + [rests(size, 1)])
                told.add(found.signs)
        self.assertGreater(len(told), 6)
        evens = [board for board in every_board(3, 2) if even(board)]
        for board in every_board(3, 2):
            found = shadow(board)
            self.assertTrue(even(found) and tells_no_less(board, found))
            self.assertTrue(all(tells_no_less(found, other) for other in evens if tells_no_less(board, other)))

    def test_boards_of_all_sorts_are_drawn(self):
        self.assertEqual({(even(board), seen(board), sharp(board)) for board in small_boards() if board.size > 1},
                         set(product((True, False), repeat=3)) - {(True, False, True), (False, False, True)})


class Webs(unittest.TestCase):
    def test_fillings(self):
        told = set()
        for web in nets.random_webs(87, 60, most_fillings=60):
            lists = nets.by_signs(web)
            for one, other in combinations(nets.fillings(web)[:40], 2):
                flow = [a - b for a, b in zip(one, other)]
                self.assertEqual(alike_fillings(web, one, other), is_flow(web, flow))
            for same in lists.values():
                for tie in range(len(web)):
                    values = [each[tie] for each in same]
                    told.add(len(set(values)))
                    self.assertEqual(span(web, same[0], tie), (min(values), max(values)))
                    for number in range(min(values), max(values) + 1):
                        self.assertIn(level(web, same[0], tie, number), same)
                    self.assertEqual(rise(web, same[0], tie)[0] == "ring", max(values) > same[0][tie])
                    self.assertEqual(fall(web, same[0], tie)[0] == "ring", min(values) < same[0][tie])
            if all(least < most for _, _, least, most in web.ties):
                told.add(("told", tells_all(web, [])))
                self.assertEqual(tells_all(web, []), all(len(same) == 1 for same in lists.values()))
        self.assertTrue({1, 2, 3, ("told", True), ("told", False)} <= told)


if __name__ == "__main__":
    unittest.main()
