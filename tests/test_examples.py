"""The examples of the interface, as they stand there."""

import unittest

EXAMPLES = {
    "bags": """
>>> from oneforone.bags import added, bag_index, bags, count_bags, removed
>>> [bags(2, 2), bags(3, 0), count_bags(4, 6), bag_index(3, (0, 2))]
[[(0, 0), (0, 1), (1, 1)], [()], 84, 2]
>>> [added((0, 2), 1), added((), 3), removed((0, 1, 1), 1)]
[(0, 1, 2), (3,), (0, 1)]
>>> removed((0, 2), 1)
raises NotInBag(1)
""",
    "boards": """
>>> from oneforone.boards import Board, both, count_board, is_parting_bags, like_bags, parting_bags, read_board
>>> from oneforone.boards import renamed, tells_no_less
>>> board = Board(2, 3, [4, 1, 1, 4])
>>> [board.many, board.size, board.signs, len(board), board.sign((0, 0, 1)), board((1, 1, 1))]
[2, 3, (4, 1, 1, 4), 4, 1, 4]
>>> [like_bags(board), renamed(board).signs, count_board(2, 3).signs]
[[[(0, 0, 0), (1, 1, 1)], [(0, 0, 1), (0, 1, 1)]], (0, 1, 1, 0), (0, 1, 2, 3)]
>>> other = Board(2, 3, [0, 1, 1, 2])
>>> [tells_no_less(board, other), parting_bags(board, other), both(board, other).signs]
[False, ((0, 0, 0), (1, 1, 1)), (0, 1, 1, 2)]
>>> [tells_no_less(other, board), parting_bags(other, board), is_parting_bags(board, other, ((1, 1, 1), (0, 0, 0)))]
[True, None, False]
>>> [Board(2, 3, [0, 1, -2, 0]).line(), read_board("2 1 / 5 5") == Board(2, 1, [5, 5])]
['2 3 / 0 1 -2 0', True]
>>> read_board("2 1 /  5 5")
raises InvalidLine('2 1 /  5 5')
""",
    "matches": """
>>> from oneforone.boards import Board
>>> from oneforone.matches import match_of, matches_with
>>> board = Board(2, 2, [0, 1, 1])
>>> [match_of(board, (0,), (1,)), match_of(board, other=(0,), one=(0,)), matches_with(board, (0, 1))]
[[(1, 0), (1, 1)], [(0, 0), (1, 1)], [((1,), (0,)), ((1,), (1,))]]
>>> match_of(board, (0, 0), (1,))
raises InvalidBag((0, 0))
""",
    "blocks": """
>>> from oneforone.blocks import block_of, blocks, even, is_block_chain, is_uneven, kinds, merged, same_values, seen, sharp, unseen
>>> from oneforone.boards import Board
>>> odd = Board(2, 2, [0, 1, 0])
>>> [kinds(odd), seen(odd), sharp(odd), block_of(Board(2, 1, [0, 1]), (0, 1))]
[[[(0, 0), (1, 1)], [(0, 1), (1, 0)]], True, False, None]
>>> most = Board(2, 2, [0, 1, 1])
>>> [even(most), blocks(most), unseen(most)]
[False, [[(0, 0), (0, 1), (1, 0), (1, 1)]], ((1,), 0, 1)]
>>> is_uneven(most, ((1,), (1,), (0,), (0,), (0, 0), (0, 1)))
True
>>> is_block_chain(most, (0, 1), (1, 0), [((1,), (0,)), ((0,), (1,))])
True
>>> board = Board(3, 2, [5, 4, 4, 7, 7, 7])
>>> [same_values(board), merged(board).signs]
[[[0], [1, 2]], (5, 4, 7)]
""",
    "counters": """
>>> from oneforone.boards import Board, count_board
>>> from oneforone.counters import composed, inverse, is_counter, kind_between, kind_of, next_sign, same_kind
>>> board = Board(2, 3, [0, 1, 2, 0])
>>> [kind_of(board, (1, 1)), kind_of(board, (0, 1)), same_kind(board, (0, 1), (1, 0)), inverse(board, 1)]
[0, 1, False, 2]
>>> [next_sign(board, 2, 1), kind_between(board, 0, 2), kind_between(count_board(2, 2), 0, 2)]
[0, 2, None]
>>> [composed(board, 1, 2), composed(board, 1, 1), is_counter(board, [[(1, 0)], [(0, 1)], [(1, 1), (0, 0)]])]
[0, None, True]
>>> next_sign(count_board(2, 2), 2, 1)
raises NoStep(2, 1)
""",
    "logs": """
>>> from oneforone.boards import Board, count_board
>>> from oneforone.logs import log_kinds, log_signs, walk
>>> board = Board(2, 3, [0, 1, 2, 0])
>>> walk(board, (0, 0, 1), [(0, 1), (0, 1), (1, 0)])
(1, 2, 0, 2)
>>> [log_kinds(board, [1, 2, 0, 2]), log_signs(board, 0, [2, 2])]
[(1, 1, 2), (0, 2, 1)]
>>> walk(board, (0, 0, 0), [(0, 0), (1, 0)])
raises NotThere(1)
>>> log_kinds(count_board(2, 2), [0, 1, 1, 0, 2])
raises NoKind(3)
""",
    "moves": """
>>> from oneforone.boards import Board
>>> from oneforone.moves import circles_of, hiding, hiding_trades, is_move, keeping, moved, mover, moves, sign_moved
>>> board = Board(3, 2, [0, 1, 2, 2, 0, 1])
>>> [moves(board), mover(board, 1, 0), is_move(board, [0, 1, 2])]
[[(0, 1, 2), (1, 2, 0), (2, 0, 1)], (2, 0, 1), False]
>>> [keeping(board), hiding(board), hiding_trades(board)]
[[(0, 1, 2)], (1, 2, 0), None]
>>> [moved(board, (0, 2), (1, 2, 0)), sign_moved(board, 2, (1, 2, 0))]
[(0, 1), 0]
>>> pairs = Board(4, 2, [0, 1, 2, 3, 0, 3, 2, 4, 5, 4])
>>> [moves(pairs), circles_of(pairs), hiding_trades(pairs)]
[[(0, 1, 2, 3), (1, 0, 3, 2)], [[0, 1], [2, 3]], (1, 0, 3, 2)]
>>> mover(pairs, 0, 3)
raises NoMove(0, 3)
""",
    "adding": """
>>> from oneforone.adding import added_up, adding, number_of_kinds, number_of_signs, sum_boards
>>> from oneforone.boards import Board, count_board
>>> board = Board(3, 2, [0, 1, 2, 2, 0, 1])
>>> [adding(board), added_up(board, (2, 2)), number_of_signs(board), number_of_kinds(board)]
[[[0, 1, 2], [1, 2, 0], [2, 0, 1]], 1, 3, 3]
>>> [number_of_signs(count_board(3, 2)), number_of_kinds(count_board(3, 2))]
[6, 7]
>>> [len(sum_boards(4)), sum_boards(4)[0].signs, sum_boards(3) == [board]]
[4, (0, 1, 2, 3, 0, 3, 2, 0, 1, 0), True]
>>> adding(count_board(2, 2))
raises NoMove(0, 1)
""",
    "dials": """
>>> from oneforone.dials import Dials, dials_board, difference, is_twice, same_marks, twice
>>> dials = Dials([7, 0], [[0, 0], [1, -2], [10, 5]])
>>> [dials.marks, dials.sum_of((1, 2, 2)), difference(dials, 1, 2), same_marks(dials)]
[((0, 0), (1, -2), (3, 5)), (0, 8), (5, -7), None]
>>> turns = Dials([4], [[0], [1], [2]])
>>> [dials_board(turns, 2).signs, dials_board(Dials([0], [[3], [3], [5]]), 1).signs]
[(0, 1, 2, 2, 3, 0), (0, 0, 1)]
>>> [twice(Dials([7], [[0], [1], [3]])), is_twice(turns, (0, 1, 1, 2)), is_twice(turns, (0, 2, 0, 2))]
[None, True, False]
""",
    "shifts": """
>>> from oneforone.dials import Dials
>>> from oneforone.shifts import is_parting_counts, parting_counts, shifted, shifts
>>> turns = Dials([4], [[0], [1], [2]])
>>> [shifts(turns, [0, 1]), shifts(turns, [2]), shifted(turns, 2, (3,)), shifts(Dials([10 ** 18], [[0], [5]]), [0])]
[[(0,), (1,)], [(0,), (2,), (3,)], 1, [(0,), (5,)]]
>>> one, other = Dials([0], [[0], [1], [2]]), Dials([0], [[5], [3], [4]])
>>> [is_parting_counts(one, other, ((1, 0, 1), (0, 2, 0))), parting_counts(one, Dials([0], [[5], [3], [1]]))]
[True, None]
>>> shifted(Dials([0], [[0], [0]]), 0, (5,))
raises SameMarks(0, 1)
""",
    "caps": """
>>> from oneforone.caps import caps_board, cheap_sharp, least_caps
>>> [caps_board([1, 2], 3).signs, caps_board([1, 2], 4).signs, least_caps([3, 1, 2]), cheap_sharp(3).rounds]
[(1, 2, 3, 0), (1, 2, 3, 3, 0), 3, (7,)]
""",
    "shadows": """
>>> from oneforone.boards import Board
>>> from oneforone.shadows import is_closing, shadow
>>> board = Board(2, 3, [7, 1, 7, 5])
>>> shadow(board).signs
(0, 1, 0, 1)
>>> first = ((0, 0, 0), (0, 1, 1), None)
>>> second = ((0, 0, 1), (1, 1, 1), ((0, 0), (0, 0), (0, 0), (1, 1), (0, 0), (1, 1)))
>>> [is_closing(board, [first, second]), is_closing(board, [second, first]), is_closing(board, [first])]
[True, False, False]
""",
    "twos": """
>>> from oneforone.boards import Board
>>> from oneforone.twos import distances, divisor, even_twos, is_loose_match, rests, sort_of, turning_match
>>> board, loose = Board(2, 4, [0, 1, 2, 0, 4]), Board(2, 3, [0, 1, 1, 0])
>>> [distances(board), divisor(loose), rests(4, 3).signs, len(even_twos(4))]
[[3], 1, (0, 1, 2, 0, 1), 4]
>>> [sort_of(board), sort_of(rests(2, 2)), sort_of(loose), turning_match(board)]
['sharp', 'turning', 'loose', None]
>>> is_loose_match(loose, ((0, 0), (0, 1), (1, 1), (1, 0)))
True
""",
    "mixtures": """
>>> from oneforone.mixtures import border_board, is_mixture, mixture, sum_shadow
>>> border = border_board()
>>> [border.signs, sum_shadow(border).signs]
[(0, 1, 2, 3, 4, 5, 2, 6, 7, 3), (0, 1, 2, 3, 4, 5, 2, 6, 0, 3)]
>>> pairs = [((0, 1, 1), (2, 2, 2), -1), ((0, 0, 2), (1, 1, 1), -1)]
>>> [is_mixture(border, (1, 2, 2), (0, 0, 0), pairs), is_mixture(border, (0, 1, 2), (0, 1, 2), [])]
[True, True]
>>> mixture(border, (0, 0, 1), (0, 0, 0))
raises NoMixture((0, 0, 1), (0, 0, 0))
""",
    "totals": """
>>> from oneforone.dials import Dials
>>> from oneforone.totals import Total, least, parting_things, total_of
>>> odd = Total(2, [[0, 1], [1, 0]], [5, 7])
>>> [odd.stand([1, 0, 1, 1]), odd.sign((1,)), odd.many, len(odd), total_of(Dials([2], [[0], [1]])).signs]
[1, 7, 2, 2, (0, 1)]
>>> [least(Total(2, [[2, 1], [1, 2], [0, 1]], [5, 7, 5])) == odd, parting_things(odd, Total(2, [[0, 1], [1, 1]], [5, 7]))]
[True, (1, 1)]
""",
    "orders": """
>>> from oneforone.orders import board_at, disorder, is_disorder
>>> from oneforone.totals import Total
>>> some = Total(2, [[0, 1], [1, 1]], [5, 7])
>>> [disorder(some), board_at(some, 2).signs, is_disorder(Total(2, [[0, 1], [0, 1]], [5, 7]), ((0, 1), (1, 0)))]
[None, (5, 7, 7), True]
""",
    "calendars": """
>>> from oneforone.calendars import answer_at, calendar
>>> from oneforone.totals import Total
>>> odd = Total(2, [[0, 1], [1, 0]], [5, 7])
>>> [calendar(odd, "seen"), calendar(odd, "sharp"), answer_at((2, (True, False, True)), 6)]
[(2, (True, True)), (2, (True, False)), False]
""",
    "comers": """
>>> from oneforone.comers import broken, is_broken, is_unclear, marks_of, unclear
>>> from oneforone.totals import Total
>>> some = Total(2, [[0, 1], [1, 1]], [5, 7])
>>> [unclear(some, 1), is_unclear(some, 2, ((1,), (1,), 0, 1)), is_broken(some, ("goes", (0,), (1,), 1))]
[None, True, True]
>>> odd = Total(2, [[0, 1], [1, 0]], [5, 7])
>>> [broken(odd), marks_of(odd).sum_of((0, 0)) == marks_of(odd).sum_of((1, 1))]
[None, True]
""",
    "scenes": """
>>> from oneforone.boards import count_board
>>> from oneforone.dials import Dials
>>> from oneforone.scenes import Scene, alike, bag_at, is_history, signs_of, with_ask, without_ask
>>> scene = Scene(3, [(count_board(2, 2), [[0, 1], [1, 2]]), (Dials([2], [[0], [1]]), [[2], []])])
>>> [scene.stints, scene.many, scene.readers[1][1], scene.board(1, 2).signs, scene.sign(1, 0, [0, 1, 1])]
[3, 2, ((2,), ()), (0, 1, 0), (1,)]
>>> [signs_of(scene, [0, 1, 1]), alike(scene, [0, 1, 1], [0, 1, 0]), bag_at(scene, 0, 1, [0, 1, 0])]
[[(1, 2), ((1,), (0,))], False, (0, 1)]
>>> [with_ask(scene, 1, [0, 1]).readers[1][1], without_ask(scene, 0, 0).readers[0][1], is_history(scene, [0, 2, 0])]
[((2,), (), (0, 1)), ((1, 2),), False]
>>> with_ask(scene, 0, [2])
raises InvalidLot([2])
""",
    "links": """
>>> from oneforone.boards import count_board
>>> from oneforone.links import joint_of, joints, link_asks, links, number, pieces, strands
>>> from oneforone.scenes import Scene
>>> scene = Scene(5, [(count_board(2, 2), [[0, 1], [2, 3], [1, 2]])])
>>> [links(scene, 0), link_asks(scene, 0, (2, 1, 3)), strands(scene, 0, 2), joints(scene), joint_of(scene, 4)]
[[(2, 0, 2), (2, 1, 3)], (2, 1), [[0, 2], [1, 3]], [[0, 2], [1, 3], [4]], 2]
>>> [pieces(scene, 0), number(scene, 0, 1, [0, 2]), number(scene, 0, 1, [0, 4])]
[[[0, 1, 2]], 1, 0]
>>> link_asks(scene, 0, (2, 0, 1))
raises NotALink((2, 0, 1))
""",
    "tables": """
>>> from oneforone.boards import count_board
>>> from oneforone.tables import renew_rows, renew_scene, trades_scene
>>> scene = renew_scene(count_board(2, 2), 2, [0, 1, 0])
>>> [scene.stints, scene.readers[0][1], renew_rows(2, [0, 1, 0])]
[5, ((0, 1), (1, 2), (2, 3), (3, 4)), [[0, 2, 4], [1, 3]]]
>>> trades_scene(count_board(2, 1), 3, 1, [(0, 2), (2, 1)]).readers[0][1]
((0,), (2,), (1,))
>>> trades_scene(count_board(2, 1), 3, 1, [(1, 2)])
raises InvalidScript([(1, 2)])
""",
    "bars": """
>>> from oneforone.boards import Board, count_board
>>> from oneforone.bars import apart, bar, gone_along, is_bar
>>> from oneforone.scenes import Scene
>>> scene = Scene(3, [(count_board(2, 2), [[0, 1], [1, 2]])])
>>> [bar(scene, [0, 1, 0], [1, 0, 1]), bar(scene, [0, 1, 0], [1, 0, 0]), bar(scene, [0, 0, 0], [1, 0, 1])]
[None, ('strand', 0, 2, 0, 2), ('ask', 0, 0)]
>>> [apart(scene, [0, 1, 0], [1, 1, 0]), apart(scene, [0, 0, 0], [1, 0, 1]), is_bar(scene, [0, 0, 0], [1, 0, 1], ("ask", 0, 1))]
[(0, 2, 0, 2), None, False]
>>> gone_along(scene, [0, 1, 0], 0, 1)
((0, 1), (2, 1))
>>> gone_along(scene, [0, 1, 1], 0, 1)
raises Barred(2)
>>> bar(Scene(4, [(Board(2, 3, [0, 1, 1, 0]), [[0, 1, 2], [1, 2, 3]])]), [0, 0, 0, 0], [0, 0, 0, 1])
raises UnevenReader(0, 3)
""",
    "ways": """
>>> from oneforone.boards import count_board
>>> from oneforone.scenes import Scene
>>> from oneforone.ways import fates, histories_alike, known, next_signs, stays_open, sure_same, twin, ways
>>> scene = Scene(3, [(count_board(2, 2), [[0, 1], [1, 2]])])
>>> [histories_alike(scene, [0, 1, 0]), known(scene, [0, 1, 0]), fates(scene, [0, 1, 1])]
[[(0, 1, 0), (1, 0, 1)], [], [(0,), (1,), (1,)]]
>>> [ways(scene, [0, 1, 0], 0), twin(scene, [0, 1, 0], 2), sure_same(scene, [0, 1, 0], 0, 1), sure_same(scene, [0, 1, 0], 0, 2)]
[[(0, 0), (1, 1)], (1, 0, 1), 'never', 'always']
>>> [next_signs(scene, [0, 1, 0], 0, [0, 2]), stays_open(scene, [0, 1, 0], 0, 0, [0, 1])]
[[0, 2], None]
""",
    "sharp": """
>>> from oneforone.boards import Board, count_board
>>> from oneforone.scenes import Scene
>>> from oneforone.sharp import chain, is_chain, one_valued
>>> scene = Scene(4, [(count_board(2, 2), [[0, 1], [1, 2], [2, 3]])])
>>> [one_valued(scene, [0, 1, 1, 1]), chain(scene, [0, 1, 1, 1], 3)]
[[1], None]
>>> [is_chain(scene, [0, 1, 1, 1], 0, [(0, 2, 0, 2)]), is_chain(scene, [0, 1, 1, 1], 0, [(0, 2, 0, 2), (0, 2, 2, 0)])]
[False, True]
>>> chain(Scene(3, [(Board(2, 2, [0, 1, 0]), [[0, 1], [1, 2]])]), [0, 0, 0], 3)
raises UnsharpReader(0, 2)
""",
    "numbers": """
>>> from oneforone.boards import Board
>>> from oneforone.numbers import loosener, telling_number
>>> sums, odd = Board(3, 2, [0, 1, 2, 2, 3, 4]), Board(2, 2, [0, 1, 0])
>>> [loosener(sums, [0, 1]), loosener(sums, [0, 2]), telling_number(sums), telling_number(odd)]
[((0, 1), (1, 2)), None, 3, None]
>>> loosener(sums, [1, 0])
raises InvalidSet([1, 0])
""",
    "breakers": """
>>> from oneforone.boards import Board
>>> from oneforone.breakers import is_open_table, is_uneven_table, is_unsharp_table, open_table
>>> is_open_table(Board(3, 2, [0, 1, 2, 2, 3, 4]), [0, 1], ([0], [0, 1, 1], [1, 0, 2]))
True
>>> is_uneven_table(Board(2, 2, [0, 1, 1]), ([0, 1, 0], [0, 1, 1], [0, 0, 0], [0, 0, 1]))
True
>>> odd = Board(2, 2, [0, 1, 0])
>>> [is_unsharp_table(odd, ((0, 1, 1), (1, 0, 0))), is_unsharp_table(odd, ((0, 1, 0), (1, 0, 1)))]
[True, False]
>>> open_table(Board(2, 2, [0, 1, 2]), [0, 1])
raises Rigid([0, 1])
""",
    "renewing": """
>>> from oneforone.boards import Board, count_board
>>> from oneforone.renewing import alike_by_renewing, told_by_renewing
>>> [alike_by_renewing(Board(2, 3, [0, 1, 0, 1])), alike_by_renewing(count_board(2, 3))]
[4, None]
>>> told_by_renewing(Board(2, 2, [0, 1, 0]))
raises Hidden((1, 0))
""",
    "trades": """
>>> from oneforone.trades import best_numbers, fewest_trades, is_joining, is_like_sums, joining_script, like_sums
>>> [is_joining(4, 2, joining_script(4, 2)), is_joining(3, 1, [(0, 1), (1, 2)]), is_joining(3, 1, [(0, 1), (1, 0)])]
[True, True, False]
>>> [best_numbers(7, 3), fewest_trades(7, 3), fewest_trades(4, 3), fewest_trades(12, 4)]
[[1, 2], 5, 2, 10]
>>> [like_sums([1, 2, 4]), is_like_sums([3, 1, 2], ([0], [1, 2])), is_like_sums([3, 0], ([], [1]))]
[None, True, True]
""",
    "gates": """
>>> from oneforone.boards import count_board
>>> from oneforone.gates import every_history, gate, numbers_of
>>> from oneforone.tables import trades_scene
>>> scene = trades_scene(count_board(2, 3), rows=4, inside=3, script=[(1, 3), (2, 1)])
>>> [numbers_of(scene, 0), every_history(scene)]
[[1, 2], None]
>>> scene = trades_scene(count_board(2, 2), 3, 2, [(1, 2)])
>>> [numbers_of(scene, 0), gate(scene, [0, 1, 1], 0, 2, 1), gate(scene, [0, 1, 1], 0, 0, 1)]
[[1, 1], True, False]
>>> gate(scene, [0, 0, 0], 0, 0, 1)
raises NotOpen(0)
""",
    "live": """
>>> from oneforone.dials import Dials
>>> from oneforone.live import live_rows, live_scene
>>> scene = live_scene(Dials([0], [[0], [1]]), 3, [0, 1], [("trade", 0, 2), ("renew", 1)])
>>> [scene.stints, scene.readers[0][1], live_rows(3, [("trade", 0, 2), ("renew", 1)])]
[4, ((0, 1), (1, 2), (2, 3)), [[0], [1, 3], [2]]]
>>> live_scene(Dials([0], [[0], [1]]), 2, [0], [("come", 0)])
raises InvalidDeeds([('come', 0)])
```""",
    "nobody": """
>>> from oneforone.dials import Dials
>>> from oneforone.live import live_scene
>>> from oneforone.nobody import closed, closed_shifts, closed_ways, count_shifted, met, nobody
>>> dials = Dials([0], [[0], [1]])
>>> scene = live_scene(dials, 3, [0, 1], [("trade", 0, 2), ("renew", 1)])
>>> [closed(scene), closed_ways(scene, [0, 1, 0, 1]), closed_shifts(scene, [0, 1, 0, 1]), count_shifted(scene, [0, 1, 0, 1])]
[[0, 1], [[(0, 0), (1, 1)], [(0, 0), (1, 1)]], [(1, [(0,), (1,)]), (1, [(-1,), (0,)])], 2]
>>> other = live_scene(dials, 3, [0], [("come", 1), ("go", 0)])
>>> [nobody(other, 0), met(other), closed(other)]
[[0, 1], [0], [1]]
""",
    "webs": """
>>> from oneforone.webs import Web, alike_fillings, is_flow, shown
>>> web = Web(3, [(0, 2, 0, 2), (0, 1, 0, 2), (1, 2, 0, 1)])
>>> [shown(web, [1, 1, 0]), alike_fillings(web, [1, 1, 0], (0, 2, 1)), is_flow(web, [1, -1, -1]), is_flow(web, [1, 1, 0])]
[(2, 1), True, True, False]
```""",
    "rings": """
>>> from oneforone.rings import fall, is_ring, ringed, rise
>>> from oneforone.webs import Web
>>> web = Web(3, [(0, 2, 0, 2), (0, 1, 0, 2), (1, 2, 0, 1)])
>>> [rise(web, [1, 1, 0], 0), rise(web, [1, 2, 0], 1), fall(web, [1, 1, 0], 0)]
[('shut', [2]), ('full',), ('ring', [(0, -1), (1, 1), (2, 1)])]
>>> [ringed(web, [1, 1, 0], [(2, 1), (0, -1), (1, 1)]), is_ring(web, [1, 1, 0], [(0, 1), (2, -1), (1, -1)])]
[(0, 2, 1), False]
```""",
    "spans": """
>>> from oneforone.spans import fitting, highest, is_no_filling, level, lowest, span
>>> from oneforone.webs import Web
>>> web = Web(3, [(0, 2, 0, 2), (0, 1, 0, 2), (1, 2, 0, 1)])
>>> [highest(web, [1, 1, 0], 0), lowest(web, [1, 1, 0], 0), span(web, [1, 1, 0], 2), fitting(web, [3, 1])]
[((1, 1, 0), [2]), ((0, 2, 1), []), (0, 1), (1, 2, 0)]
>>> [is_no_filling(web, [1, 3], [1]), is_no_filling(web, [1, 3], [0, 2]), is_no_filling(web, [1, 3], [0])]
[True, True, False]
>>> level(web, [1, 1, 0], 0, 2)
raises Beyond(0, 1)
```""",
    "prices": """
>>> from oneforone.prices import greatest_sum, is_greatest_sum
>>> from oneforone.webs import Web
>>> web = Web(3, [(0, 2, 0, 2), (0, 1, 0, 2), (1, 2, 0, 1)])
>>> [greatest_sum(web, [1, 1, 0], [0, 3, -1])[0], is_greatest_sum(web, [1, 1, 0], [0, 3, -1], ((0, 2, 1), [0, 1, 0]))]
[(0, 2, 1), True]
""",
    "held": """
>>> from oneforone.held import cheapest_held, held, is_cheapest_held, open_behind
>>> from oneforone.webs import Web
>>> web = Web(4, [(0, 2, 0, 2), (0, 1, 0, 2), (1, 3, 0, 2), (2, 3, 0, 2)])
>>> [held(web, [1])[0].ties, held(web, [0])[1]]
[((0, 1, 0, 2), (0, 1, 0, 2), (1, 2, 0, 2), (1, 2, 0, 2)), [0, 2, 3]]
>>> [open_behind(web, [1, 2, 0, 1], []), open_behind(web, [1, 2, 0, 1], [1])]
[[], [0, 1, 2, 3]]
>>> cheapest_held(web, [1, 2, 0, 1], 1, [5, 3, 4])
([1], None, (0, 3, 0, 0))
>>> is_cheapest_held(web, [1, 2, 0, 1], 1, ([0], None, [0, 1, 0, 0]))
True
```""",
    "rest_webs": """
>>> from oneforone.rest_webs import cheapest_rest_held, count_rests, firm_ties, parts, rest_shown, rest_twin
>>> from oneforone.webs import Web
>>> web = Web(4, [(0, 1, 0, 0), (0, 1, 0, 0), (1, 3, 0, 0)])
>>> [rest_shown(web, [1, 2, 1], 3), firm_ties(web), parts(web), count_rests(web, 3)]
[(0, 1, 1), [2], 2, 3]
>>> [rest_twin(web, [1, 2, 1], 3, 2), rest_twin(web, [1, 0, 0], 2, 0)]
[None, (0, 1, 0)]
>>> cheapest_rest_held(web, 2, [9, 1, 4])
([1, 2], (5, 5, 4, 0))
```""",
    "openings": """
>>> from oneforone.openings import cheapest_openings, closed_ring, is_cheapest_openings, tells_all
>>> from oneforone.webs import Web
>>> web = Web(3, [(0, 1, 0, 1), (1, 2, 0, 1), (0, 2, 0, 1)])
>>> [tells_all(web, []), tells_all(web, [1]), closed_ring(web, [0]), cheapest_openings(web, [3, 1, 2])]
[False, True, None, [1]]
>>> is_cheapest_openings(web, [1, 0, 0], [1, 2])
True
""",
    "lands": """
>>> from oneforone.boards import count_board
>>> from oneforone.lands import Land, land_scene, ringless, road_blocks, shared_ring, trees
>>> from oneforone.links import number, strands
>>> land = Land(3, [(0, 1), (0, 1), (1, 2), (2, 2)])
>>> [trees(land), ringless(land, 1), road_blocks(land), sorted(shared_ring(land, 0, 1))]
[[[0, 2], [1, 2]], [[0], [1], [2]], [[0, 1], [2], [3]], [0, 1]]
>>> scene = land_scene(count_board(2, 2), land, trees(land))
>>> [strands(scene, 0, 2), number(scene, 0, 1, [0, 1])]
[[[0, 1]], 1]
>>> trees(Land(3, [(0, 1)]))
raises NotJoined(2)
```""",
    "works": """
>>> from oneforone.works import first_works, never_first
>>> [first_works([1, 2], 2), never_first([1, 2], 1)]
[[[0, 1], [1, 2]], [2]]
```""",
    "strips": """
>>> from oneforone.strips import band_lots, band_rounds, band_told, is_strip_way, strip_lots
>>> [strip_lots(4, [1, 3]), band_lots(3, [0, 1])]
[[[0, 1], [2], [3], [0], [1], [2, 3]], [[0], [1, 2], [0, 1], [2]]]
>>> [is_strip_way(5, [2, 3], 2, [4, 1, 2]), is_strip_way(5, [2, 3], 2, [3, 2])]
[True, False]
>>> [band_told(3, 0, 1), band_told(4, 1, 3), band_rounds(12, 1, 7)]
[True, False, 3]
""",
    "desk": """
>>> from oneforone.desk import Desk
>>> from oneforone.dials import Dials
>>> desk = Desk(Dials([0], [[0], [1]]), 3, [0, 1, 1], [0, 1])
>>> [desk.log(), desk.guess(0), desk.would_tell(("trade", 0, 2)), desk.would_tell(("trade", 1, 2))]
[[(1,)], (0, 1), [0, 1, 2], []]
>>> [desk.trade(0, into=2), desk.known(), desk.present()]
[(2,), [0, 1, 2], ((1, 1), (2, 1))]
>>> [desk.hold(), desk.renew(1, 0), desk.go(2), desk.show(), desk.log()]
[None, None, None, (0,), [(1,), (2,), (0,)]]
>>> [desk.stints(), desk.undo(), desk.undo(), desk.redo(), desk.journal()]
[[(0, 0), (1, 1), (2, 1), (1, 0)], None, None, None, ['trade 0 2', 'hold', 'renew 1 0', 'go 2']]
>>> [desk.web().places, desk.web().ties, desk.fates()]
[3, ((0, 1, 0, 1), (0, 2, 0, 1), (1, 2, 0, 1)), [(0,), (1,), (1,), (0, 1)]]
>>> desk.come(1)
raises InRow(1)
```""",
    "journal": """
>>> from oneforone.desk import Desk
>>> from oneforone.dials import Dials
>>> from oneforone.journal import read_desk
>>> dials = Dials([3], [[0], [1], [2]])
>>> desk = read_desk(dials, 2, [2, 1], [0], ["trade 0 1", "show"], held=True)
>>> [desk.log(), desk.journal(), desk == Desk(dials, 2, [2, 1], [0], True).tried([("trade", 0, 1), ("show",)])]
[[(1,)], ['trade 0 1', 'show'], True]
>>> read_desk(dials, 2, [2, 1], [0], ["come 0", "come 01"])
raises InvalidLine('come 01')
""",
}


def rows(text):
    """Each line that is run, with the line that stands behind it, or None."""
    lines = text.strip().split("\n")
    for at, line in enumerate(lines):
        if line.startswith(">>> "):
            behind = lines[at + 1] if at + 1 < len(lines) else ">>> "
            yield line[4:], None if behind.startswith(">>> ") else behind


def answer(line, names):
    """What the line gives, as the interface writes it."""
    try:
        return repr(eval(line, names))
    except ValueError as error:
        given = ", ".join(repr(value) for value in vars(error).values())
        return f"raises {type(error).__name__}({given})"


class Examples(unittest.TestCase):
    def test_examples(self):
        for name, text in EXAMPLES.items():
            names = {}
            told = 0
            for line, behind in rows(text):
                with self.subTest(file=name, line=line):
                    if behind is None:
                        exec(line, names)
                    else:
                        self.assertEqual(answer(line, names), behind)
                        told += 1
            self.assertGreater(told, 0)


if __name__ == "__main__":
    unittest.main()
