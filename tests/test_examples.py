"""The examples of the interface, as they stand there."""

import unittest

EXAMPLES = {
    "bags": """
>>> from oneforone.bags import added, bag_index, bags, count_bags, removed
>>> [bags(2, 2), bags(3, 0), count_bags(4, 6), bag_index(3, (0, 2))]
[[(0, 0), (0, 1), (1, 1)], [()], 84, 2]
>>> [added((0, 2), 1), added((), 3), removed((0, 1, 1), 1)]
[(0, 1, 2), (3,), (0, 1)]
>>> removed((0, 2), 1)
raises NotInBag(1)
""",
    "boards": """
>>> from oneforone.boards import Board, both, count_board, is_parting_bags, like_bags, parting_bags, read_board
>>> from oneforone.boards import renamed, tells_no_less
>>> board = Board(2, 3, [4, 1, 1, 4])
>>> [board.many, board.size, board.signs, len(board), board.sign((0, 0, 1)), board((1, 1, 1))]
[2, 3, (4, 1, 1, 4), 4, 1, 4]
>>> [like_bags(board), renamed(board).signs, count_board(2, 3).signs]
[[[(0, 0, 0), (1, 1, 1)], [(0, 0, 1), (0, 1, 1)]], (0, 1, 1, 0), (0, 1, 2, 3)]
>>> other = Board(2, 3, [0, 1, 1, 2])
>>> [tells_no_less(board, other), parting_bags(board, other), both(board, other).signs]
[False, ((0, 0, 0), (1, 1, 1)), (0, 1, 1, 2)]
>>> [tells_no_less(other, board), parting_bags(other, board), is_parting_bags(board, other, ((1, 1, 1), (0, 0, 0)))]
[True, None, False]
>>> [Board(2, 3, [0, 1, -2, 0]).line(), read_board("2 1 / 5 5") == Board(2, 1, [5, 5])]
['2 3 / 0 1 -2 0', True]
>>> read_board("2 1 /  5 5")
raises InvalidLine('2 1 /  5 5')
""",
    "matches": """
>>> from oneforone.boards import Board
>>> from oneforone.matches import match_of, matches_with
>>> board = Board(2, 2, [0, 1, 1])
>>> [match_of(board, (0,), (1,)), match_of(board, other=(0,), one=(0,)), matches_with(board, (0, 1))]
[[(1, 0), (1, 1)], [(0, 0), (1, 1)], [((1,), (0,)), ((1,), (1,))]]
>>> match_of(board, (0, 0), (1,))
raises InvalidBag((0, 0))
""",
    "blocks": """
>>> from oneforone.blocks import block_of, blocks, even, is_block_chain, is_uneven, kinds, merged, same_values, seen, sharp, unseen
>>> from oneforone.boards import Board
>>> odd = Board(2, 2, [0, 1, 0])
>>> [kinds(odd), seen(odd), sharp(odd), block_of(Board(2, 1, [0, 1]), (0, 1))]
[[[(0, 0), (1, 1)], [(0, 1), (1, 0)]], True, False, None]
>>> most = Board(2, 2, [0, 1, 1])
>>> [even(most), blocks(most), unseen(most)]
[False, [[(0, 0), (0, 1), (1, 0), (1, 1)]], ((1,), 0, 1)]
>>> is_uneven(most, ((1,), (1,), (0,), (0,), (0, 0), (0, 1)))
True
>>> is_block_chain(most, (0, 1), (1, 0), [((1,), (0,)), ((0,), (1,))])
True
>>> board = Board(3, 2, [5, 4, 4, 7, 7, 7])
>>> [same_values(board), merged(board).signs]
[[[0], [1, 2]], (5, 4, 7)]
""",
    "counters": """
>>> from oneforone.boards import Board, count_board
>>> from oneforone.counters import composed, inverse, is_counter, kind_between, kind_of, next_sign, same_kind
>>> board = Board(2, 3, [0, 1, 2, 0])
>>> [kind_of(board, (1, 1)), kind_of(board, (0, 1)), same_kind(board, (0, 1), (1, 0)), inverse(board, 1)]
[0, 1, False, 2]
>>> [next_sign(board, 2, 1), kind_between(board, 0, 2), kind_between(count_board(2, 2), 0, 2)]
[0, 2, None]
>>> [composed(board, 1, 2), composed(board, 1, 1), is_counter(board, [[(1, 0)], [(0, 1)], [(1, 1), (0, 0)]])]
[0, None, True]
>>> next_sign(count_board(2, 2), 2, 1)
raises NoStep(2, 1)
""",
    "logs": """
>>> from oneforone.boards import Board, count_board
>>> from oneforone.logs import log_kinds, log_signs, walk
>>> board = Board(2, 3, [0, 1, 2, 0])
>>> walk(board, (0, 0, 1), [(0, 1), (0, 1), (1, 0)])
(1, 2, 0, 2)
>>> [log_kinds(board, [1, 2, 0, 2]), log_signs(board, 0, [2, 2])]
[(1, 1, 2), (0, 2, 1)]
>>> walk(board, (0, 0, 0), [(0, 0), (1, 0)])
raises NotThere(1)
>>> log_kinds(count_board(2, 2), [0, 1, 1, 0, 2])
raises NoKind(3)
""",
    "moves": """
>>> from oneforone.boards import Board
>>> from oneforone.moves import circles_of, hiding, hiding_trades, is_move, keeping, moved, mover, moves, sign_moved
>>> board = Board(3, 2, [0, 1, 2, 2, 0, 1])
>>> [moves(board), mover(board, 1, 0), is_move(board, [0, 1, 2])]
[[(0, 1, 2), (1, 2, 0), (2, 0, 1)], (2, 0, 1), False]
>>> [keeping(board), hiding(board), hiding_trades(board)]
[[(0, 1, 2)], (1, 2, 0), None]
>>> [moved(board, (0, 2), (1, 2, 0)), sign_moved(board, 2, (1, 2, 0))]
[(0, 1), 0]
>>> pairs = Board(4, 2, [0, 1, 2, 3, 0, 3, 2, 4, 5, 4])
>>> [moves(pairs), circles_of(pairs), hiding_trades(pairs)]
[[(0, 1, 2, 3), (1, 0, 3, 2)], [[0, 1], [2, 3]], (1, 0, 3, 2)]
>>> mover(pairs, 0, 3)
raises NoMove(0, 3)
""",
    "adding": """
>>> from oneforone.adding import added_up, adding, number_of_kinds, number_of_signs, sum_boards
>>> from oneforone.boards import Board, count_board
>>> board = Board(3, 2, [0, 1, 2, 2, 0, 1])
>>> [adding(board), added_up(board, (2, 2)), number_of_signs(board), number_of_kinds(board)]
[[[0, 1, 2], [1, 2, 0], [2, 0, 1]], 1, 3, 3]
>>> [number_of_signs(count_board(3, 2)), number_of_kinds(count_board(3, 2))]
[6, 7]
>>> [len(sum_boards(4)), sum_boards(4)[0].signs, sum_boards(3) == [board]]
[4, (0, 1, 2, 3, 0, 3, 2, 0, 1, 0), True]
>>> adding(count_board(2, 2))
raises NoMove(0, 1)
""",
    "dials": """
>>> from oneforone.dials import Dials, dials_board, difference, is_twice, same_marks, twice
>>> dials = Dials([7, 0], [[0, 0], [1, -2], [10, 5]])
>>> [dials.marks, dials.sum_of((1, 2, 2)), difference(dials, 1, 2), same_marks(dials)]
[((0, 0), (1, -2), (3, 5)), (0, 8), (5, -7), None]
>>> turns = Dials([4], [[0], [1], [2]])
>>> [dials_board(turns, 2).signs, dials_board(Dials([0], [[3], [3], [5]]), 1).signs]
[(0, 1, 2, 2, 3, 0), (0, 0, 1)]
>>> [twice(Dials([7], [[0], [1], [3]])), is_twice(turns, (0, 1, 1, 2)), is_twice(turns, (0, 2, 0, 2))]
[None, True, False]
""",
    "shifts": """
>>> from oneforone.dials import Dials
>>> from oneforone.shifts import is_parting_counts, parting_counts, shifted, shifts
>>> turns = Dials([4], [[0], [1], [2]])
>>> [shifts(turns, [0, 1]), shifts(turns, [2]), shifted(turns, 2, (3,)), shifts(Dials([10 ** 18], [[0], [5]]), [0])]
[[(0,), (1,)], [(0,), (2,), (3,)], 1, [(0,), (5,)]]
>>> one, other = Dials([0], [[0], [1], [2]]), Dials([0], [[5], [3], [4]])
>>> [is_parting_counts(one, other, ((1, 0, 1), (0, 2, 0))), parting_counts(one, Dials([0], [[5], [3], [1]]))]
[True, None]
>>> shifted(Dials([0], [[0], [0]]), 0, (5,))
raises SameMarks(0, 1)
""",
    "caps": """
>>> from oneforone.caps import caps_board, cheap_sharp, least_caps
>>> [caps_board([1, 2], 3).signs, caps_board([1, 2], 4).signs, least_caps([3, 1, 2]), cheap_sharp(3).rounds]
[(1, 2, 3, 0), (1, 2, 3, 3, 0), 3, (7,)]
""",
    "shadows": """
>>> from oneforone.boards import Board
>>> from oneforone.shadows import is_closing, shadow
>>> board = Board(2, 3, [7, 1, 7, 5])
>>> shadow(board).signs
(0, 1, 0, 1)
>>> first = ((0, 0, 0), (0, 1, 1), None)
>>> second = ((0, 0, 1), (1, 1, 1), ((0, 0), (0, 0), (0, 0), (1, 1), (0, 0), (1, 1)))
>>> [is_closing(board, [first, second]), is_closing(board, [second, first]), is_closing(board, [first])]
[True, False, False]
""",
    "twos": """
>>> from oneforone.boards import Board
>>> from oneforone.twos import distances, divisor, even_twos, is_loose_match, rests, sort_of, turning_match
>>> board, loose = Board(2, 4, [0, 1, 2, 0, 4]), Board(2, 3, [0, 1, 1, 0])
>>> [distances(board), divisor(loose), rests(4, 3).signs, len(even_twos(4))]
[[3], 1, (0, 1, 2, 0, 1), 4]
>>> [sort_of(board), sort_of(rests(2, 2)), sort_of(loose), turning_match(board)]
['sharp', 'turning', 'loose', None]
>>> is_loose_match(loose, ((0, 0), (0, 1), (1, 1), (1, 0)))
True
""",
}


def rows(text):
    """Each line that is run, with the line that stands behind it, or None."""
    lines = text.strip().split("\n")
    for at, line in enumerate(lines):
        if line.startswith(">>> "):
            behind = lines[at + 1] if at + 1 < len(lines) else ">>> "
            yield line[4:], None if behind.startswith(">>> ") else behind


def answer(line, names):
    """What the line gives, as the interface writes it."""
    try:
        return repr(eval(line, names))
    except ValueError as error:
        given = ", ".join(repr(value) for value in vars(error).values())
        return f"raises {type(error).__name__}({given})"


class Examples(unittest.TestCase):
    def test_examples(self):
        for name, text in EXAMPLES.items():
            names = {}
            told = 0
            for line, behind in rows(text):
                with self.subTest(file=name, line=line):
                    if behind is None:
                        exec(line, names)
                    else:
                        self.assertEqual(answer(line, names), behind)
                        told += 1
            self.assertGreater(told, 0)


if __name__ == "__main__":
    unittest.main()
