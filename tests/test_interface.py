"""What holds for all functions: names, ways of passing arguments, new lists, unchanged arguments, any values."""

import copy
import importlib
import inspect
import unittest

from oneforone.boards import Board, count_board
from oneforone.dials import Dials
from oneforone.desk import Desk
from oneforone.lands import Land
from oneforone.live import live_scene
from oneforone.scenes import Scene
from oneforone.totals import Total
from oneforone.webs import Web
from tests.cases import Case
from tests.interface import CLASSES, FUNCTIONS
from tests.lives import STEPS
from tests.nets import SMALL
from tests.runs import LAST, ODD, SOME
from tests.walks import any_values, border, first_board, klein_board, sums_board

TURNS = Board(2, 3, [0, 1, 2, 0])
MOST = Board(2, 2, [0, 1, 1])
THREE = Board(3, 2, [0, 1, 2, 2, 0, 1])
DIALS = Dials([4], [[0], [1], [2]])
ONE, OTHER = Dials([0], [[0], [1], [2]]), Dials([0], [[5], [3], [4]])
COUNTS = count_board(2, 2)
PAIR = Scene(3, [(COUNTS, [[0, 1], [1, 2]])])
LINE = Scene(5, [(COUNTS, [[0, 1], [1, 2], [2, 3]]), (ODD, [[], [0], [0, 4]]), (Dials([2], [[0], [1]]), [[4], [0, 1, 3]])])
SUMS = Board(3, 2, [0, 1, 2, 2, 3, 4])
FOUR = Web(4, [(0, 2, 0, 2), (0, 1, 0, 2), (1, 3, 0, 2), (2, 3, 0, 2)])
LINES = Web(4, [(0, 1, 0, 0), (0, 1, 0, 0), (1, 3, 0, 0)])
LAND = Land(3, [(0, 1), (0, 1), (1, 2), (2, 2)])
DESK = Desk(STEPS, 3, [0, 1, 1], [0, 1])
LIVE = live_scene(STEPS, 3, [0], [("come", 1), ("renew", 0), ("trade", 1, 2)])

# Right arguments for each function; where a list is expected, a list stands here.
RIGHT = {
    "bags": [(3, 4), (1, 0)], "count_bags": [(3, 4)], "bag_index": [(3, (0, 2))], "added": [((0, 2), 1)],
    "removed": [((0, 1, 1), 1)],
    "like_bags": [(MOST,), (THREE,)], "renamed": [(MOST,)], "count_board": [(2, 3)], "tells_no_less": [(MOST, MOST)],
    "parting_bags": [(MOST, count_board(2, 2))], "is_parting_bags": [(MOST, count_board(2, 2), ((0, 1), (1, 1)))],
    "both": [(MOST, MOST)], "read_board": [("2 1 / 5 -5",)],
    "match_of": [(MOST, (0,), (1,))], "matches_with": [(MOST, (0, 1))],
    "blocks": [(MOST,), (border(),)], "block_of": [(MOST, (0, 1))], "block_chain": [(MOST, (0, 1), (1, 0))],
    "is_block_chain": [(MOST, (0, 1), (1, 0), [((1,), (0,)), ((0,), (1,))])], "even": [(MOST,)], "uneven": [(MOST,)],
    "is_uneven": [(MOST, ((1,), (1,), (0,), (0,), (0, 0), (0, 1)))], "kinds": [(THREE,), (klein_board(3),)],
    "seen": [(MOST,)], "unseen": [(MOST,)], "is_unseen": [(MOST, ((1,), 0, 1))], "sharp": [(MOST,)],
    "unsharp": [(MOST,)], "is_unsharp": [(MOST, ((1,), (1,), (0, 1), (0, 0)))],
    "same_values": [(THREE,), (sums_board(2, [0, 1, 0, 1]),)], "merged": [(sums_board(2, [0, 1, 0, 1]),)],
    "kind_of": [(TURNS, (0, 1))], "same_kind": [(TURNS, (0, 1), (1, 0))], "next_sign": [(TURNS, 2, 1)],
    "kind_between": [(TURNS, 0, 2)], "inverse": [(TURNS, 1)], "composed": [(TURNS, 1, 2)],
    "is_counter": [(TURNS, [[(1, 0)], [(0, 1)], [(1, 1), (0, 0)]])],
    "walk": [(TURNS, (0, 0, 1), [(0, 1), (1, 0)])], "log_kinds": [(TURNS, [1, 2, 0, 2])],
    "log_signs": [(TURNS, 0, [2, 2])],
    "moves": [(THREE,), (first_board(),)], "is_move": [(THREE, (1, 2, 0))], "mover": [(THREE, 1, 0)],
    "circles_of": [(THREE,), (first_board(),), (count_board(3, 2),)], "moved": [(THREE, (0, 2), (1, 2, 0))],
    "keeping": [(first_board(),)], "sign_moved": [(THREE, 2, (1, 2, 0))], "hiding": [(THREE,)],
    "hiding_trades": [(THREE,)],
    "number_of_signs": [(THREE,)], "number_of_kinds": [(THREE,)], "adding": [(THREE,), (klein_board(2),)],
    "added_up": [(THREE, (2, 2))], "sum_boards": [(4,)],
    "dials_board": [(DIALS, 2)], "difference": [(DIALS, 1, 2)], "same_marks": [(DIALS,)], "twice": [(DIALS,)],
    "is_twice": [(DIALS, (0, 1, 1, 2))],
    "shifts": [(DIALS, [0, 1])], "shifted": [(DIALS, 2, (3,))], "parting_counts": [(ONE, OTHER)],
    "is_parting_counts": [(ONE, OTHER, ((1, 0, 1), (0, 2, 0)))],
    "caps_board": [([1, 2], 3)], "least_caps": [([3, 1, 2],)], "cheap_sharp": [(3,)],
    "shadow": [(MOST,)], "closing": [(Board(2, 3, [7, 1, 7, 5]),)],
    "is_closing": [(Board(2, 3, [7, 1, 7, 5]), [((0, 0, 0), (0, 1, 1), None), ((0, 0, 1), (1, 1, 1), (
        (0, 0), (0, 0), (0, 0), (1, 1), (0, 0), (1, 1)))])],
    "distances": [(MOST,)], "divisor": [(MOST,)], "rests": [(3, 2)], "even_twos": [(4,)], "sort_of": [(MOST,)],
    "loose_match": [(MOST,)], "turning_match": [(TURNS,)], "is_loose_match": [(MOST, ((1,), (1,), (0, 0), (0, 1)))],
    "sum_shadow": [(MOST,), (border(),)], "mixture": [(border(), (0, 0, 0), (1, 2, 2)), (MOST, (0, 0), (0, 0))],
    "is_mixture": [(border(), (1, 2, 2), (0, 0, 0), [((0, 1, 1), (2, 2, 2), -1), ((0, 0, 2), (1, 1, 1), -1)])],
    "sum_marks": [(border(),), (THREE,)], "border_board": [()],
    "least": [(Total(2, [[2, 1], [1, 2], [0, 1]], [5, 7, 5]),)], "parting_things": [(ODD, SOME)], "total_of": [(DIALS,)],
    "disorder": [(LAST,), (ODD,)], "is_disorder": [(LAST, ((0, 1), (1, 0)))], "board_at": [(ODD, 3)],
    "calendar": [(ODD, "sharp")], "answer_at": [((2, (True, False)), 5)],
    "unclear": [(SOME, 2), (ODD, 1)], "is_unclear": [(SOME, 2, ((1,), (1,), 0, 1))], "broken": [(SOME,), (ODD,)],
    "is_broken": [(SOME, ("goes", (0,), (1,), 1))], "marks_of": [(ODD,)],
    "is_history": [(PAIR, [0, 1, 1])], "alike": [(PAIR, [0, 1, 0], [1, 0, 1])], "signs_of": [(LINE, [0, 1, 1, 0, 1])],
    "bag_at": [(LINE, 2, 1, [0, 1, 1, 0, 1])], "with_ask": [(LINE, 1, [0, 1]), (PAIR, 0, [0, 2])],
    "without_ask": [(LINE, 2, 0)],
    "links": [(LINE, 0)], "link_asks": [(LINE, 0, (2, 1, 3))], "strands": [(LINE, 0, 2)], "joints": [(LINE,)],
    "joint_of": [(LINE, 3)], "pieces": [(LINE, 0), (LINE, 1)], "number": [(LINE, 0, 1, [0, 2])],
    "renew_scene": [(SUMS, 2, [0, 1, 0]), (ODD, 3, [])], "renew_rows": [(2, [0, 1, 0])],
    "trades_scene": [(COUNTS, 4, 2, [(0, 2), (2, 0)])],
    "apart": [(PAIR, [0, 1, 0], [1, 1, 0])], "bar": [(PAIR, [0, 0, 0], [1, 0, 1]), (PAIR, [0, 1, 0], [1, 0, 0])],
    "is_bar": [(PAIR, [0, 0, 0], [1, 0, 1], ("ask", 0, 0)), (PAIR, [0, 1, 0], [1, 0, 0], ("strand", 0, 2, 0, 2))],
    "gone_along": [(PAIR, [0, 1, 0], 0, 1)],
    "ways": [(PAIR, [0, 1, 0], 0)], "histories_alike": [(PAIR, [0, 1, 0])], "count_alike": [(PAIR, [0, 1, 0])],
    "fates": [(PAIR, [0, 1, 0])], "known": [(PAIR, [0, 1, 1])], "twin": [(PAIR, [0, 1, 0], 2)],
    "sure_same": [(PAIR, [0, 1, 0], 0, 1)], "next_signs": [(PAIR, [0, 1, 0], 0, [0, 2]), (LINE, [0, 1, 1, 0, 1], 2, [0])],
    "stays_open": [(PAIR, [0, 1, 0], 0, 0, [0, 2]), (PAIR, [0, 1, 0], 0, 0, [0, 1])],
    "chain": [(PAIR, [0, 1, 1], 2)], "is_chain": [(PAIR, [0, 1, 1], 0, [(0, 2, 0, 2), (0, 2, 2, 0)])],
    "one_valued": [(PAIR, [0, 1, 0])],
    "loosener": [(SUMS, [0, 1])], "is_loosener": [(SUMS, [0, 1], ((0, 1), (1, 2)))], "telling_number": [(SUMS,)],
    "open_table": [(SUMS, [0, 1])], "is_open_table": [(SUMS, [0, 1], ([0], [0, 1, 1], [1, 0, 2]))],
    "uneven_table": [(MOST,)], "is_uneven_table": [(MOST, ([0, 1, 0], [0, 1, 1], [0, 0, 0], [0, 0, 1]))],
    "unsharp_table": [(MOST,), (Board(2, 2, [0, 1, 0]),)],
    "is_unsharp_table": [(Board(2, 2, [0, 1, 0]), ([0, 1, 1], [1, 0, 0]))],
    "told_by_renewing": [(COUNTS,)], "alike_by_renewing": [(THREE,)], "unlike_numbers": [(COUNTS,)],
    "joining_script": [(6, 3)], "is_joining": [(3, 1, [(0, 1), (1, 2)])], "told_by_trades": [(COUNTS, 4)],
    "like_sums": [([3, 5, 1, 2],), ([1, 2, 4],)], "is_like_sums": [([3, 1, 2], ([0], [1, 2]))],
    "best_numbers": [(9, 5)], "fewest_trades": [(9, 5)], "telling_script": [(9, 5)],
    "numbers_of": [(PAIR, 0)], "every_history": [(PAIR,), (Scene(3, [(COUNTS, [[0, 1]])]),)],
    "gate": [(PAIR, [0, 1, 0], 0, 1, 0)],
    "live_scene": [(STEPS, 3, [0, 1], [("trade", 0, 2), ("renew", 1)]), (ODD, 2, [], [])],
    "live_rows": [(3, [("trade", 0, 2), ("renew", 1)])],
    "nobody": [(LINE, 1)], "closed": [(LINE,)], "met": [(LINE,), (LIVE,)], "closed_ways": [(LIVE, [0, 1, 0, 1])],
    "closed_shifts": [(LIVE, [0, 1, 0, 1])], "count_shifted": [(LIVE, [0, 1, 0, 1])],
    "is_filling": [(SMALL, [1, 1, 0])], "shown": [(SMALL, [1, 1, 0])], "alike_fillings": [(SMALL, [1, 1, 0], [0, 2, 1])],
    "is_flow": [(SMALL, [1, -1, -1])],
    "rise": [(SMALL, [1, 1, 0], 0), (SMALL, [1, 2, 0], 1)], "fall": [(SMALL, [1, 1, 0], 0), (SMALL, [0, 1, 0], 1)],
    "is_ring": [(SMALL, [1, 1, 0], [(2, 1), (0, -1), (1, 1)])], "ringed": [(SMALL, [1, 1, 0], [(2, 1), (0, -1), (1, 1)])],
    "highest": [(SMALL, [1, 1, 0], 0), (SMALL, [0, 2, 1], 1)], "lowest": [(SMALL, [1, 1, 0], 0), (SMALL, [1, 1, 0], 1)],
    "is_highest": [(SMALL, [1, 1, 0], 0, ((1, 1, 0), [2]))], "is_lowest": [(SMALL, [1, 1, 0], 0, ((0, 2, 1), []))],
    "span": [(SMALL, [1, 1, 0], 2)], "level": [(SMALL, [1, 1, 0], 0, 0)], "fitting": [(SMALL, [3, 1])],
    "is_no_filling": [(SMALL, [1, 3], [0, 2])],
    "greatest_sum": [(SMALL, [1, 1, 0], [0, 3, -1])],
    "is_greatest_sum": [(SMALL, [1, 1, 0], [0, 3, -1], ([0, 2, 1], [0, 1, 0]))],
    "held": [(FOUR, [1])], "open_behind": [(FOUR, [1, 2, 0, 1], [1])],
    "cheapest_held": [(FOUR, [1, 2, 0, 1], 1), (FOUR, [1, 2, 0, 1], 1, [5, 3, 4]), (FOUR, [1, 1, 0, 1], 0)],
    "is_cheapest_held": [(FOUR, [1, 2, 0, 1], 1, ([0], None, [0, 1, 0, 0]))],
    "rest_shown": [(SMALL, [1, 2, 0], 3)], "firm_ties": [(SMALL,), (FOUR,)], "parts": [(SMALL,)], "count_rests": [(SMALL, 3)],
    "rest_twin": [(SMALL, [1, 2, 0], 3, 1)], "cheapest_rest_held": [(FOUR, 1), (FOUR, 1, [3, 0, 2])],
    "is_cheapest_rest_held": [(LINES, 2, ([1, 2], [2, 2, 1, 0]))],
    "tells_all": [(FOUR, [1])], "closed_ring": [(FOUR, []), (FOUR, [1])], "other_fillings": [(FOUR, [])],
    "cheapest_openings": [(SMALL, [3, 1, 2])], "is_cheapest_openings": [(SMALL, [1, 0, 0], [1, 2])],
    "trees": [(LAND,)], "ringless": [(LAND, 1), (LAND, 0)], "road_blocks": [(LAND,)], "shared_ring": [(LAND, 0, 1)],
    "land_scene": [(COUNTS, LAND, [[0, 2], [1, 2]])],
    "first_works": [([1, 2], 2), ([3, 1], 0)], "never_first": [([1, 2], 1)],
    "strip_lots": [(5, [2, 3])], "strip_way": [(5, [2, 3], 2)], "is_strip_way": [(5, [2, 3], 2, [4, 1, 2])],
    "band_lots": [(5, [0, 1])], "band_told": [(4, 1, 3)], "band_rounds": [(12, 1, 7)],
    "read_desk": [(STEPS, 3, [0, 1, 1], [0, 1], ["trade 0 2", "hold"]), (STEPS, 1, [0], [], [], True)],
}


def functions():
    for module, listed in FUNCTIONS.items():
        for name, arguments in listed.items():
            yield getattr(importlib.import_module("oneforone." + module), name), arguments.split()


def calls():
    for function, names in functions():
        for given in RIGHT[function.__name__]:
            yield function, names, given


def lists_in(value):
    """All lists in a value, itself too, each as often as it stands there."""
    found = [value] if type(value) is list else []
    if type(value) in (list, tuple):
        for item in value:
            found += lists_in(item)
    return found


def with_tuples(value):
    """The value with a tuple in the place of each list."""
    return tuple(with_tuples(item) for item in value) if type(value) in (list, tuple) else value


def state(value):
    """What can be seen of a value, for lists and objects of the package as well."""
    if type(value) in (list, tuple):
        return type(value), [state(item) for item in value]
    if type(value) is Scene:
        return Scene, value.stints, value.many, state(value.readers)
    if type(value) in (Board, Dials, Total, Web, Land, Desk):
        return type(value), {name: copy.deepcopy(each) for name, each in vars(value).items()}
    return type(value), value


class Interface(Case):
    def test_functions_are_there(self):
        told = set()
        for function, names in functions():
            self.assertTrue(inspect.isfunction(function))
            self.assertEqual(list(inspect.signature(function).parameters), names)
            self.assertNotIn(function.__name__, told)
            told.add(function.__name__)
        self.assertEqual(told, set(RIGHT))
        for module, listed in FUNCTIONS.items():
            for name in listed:
                home = importlib.import_module("oneforone." + module)
                self.assertEqual(getattr(home, name).__module__, home.__name__)

    def test_classes_are_there(self):
        for module, listed in CLASSES.items():
            home = importlib.import_module("oneforone." + module)
            for name, (arguments, attributes, methods) in listed.items():
                own = getattr(home, name)
                self.assertEqual(own.__module__, home.__name__)
                self.assertEqual(list(inspect.signature(own).parameters), arguments.split())
                for method, names in methods.items():
                    self.assertIn(method, vars(own))
                    self.assertEqual(list(inspect.signature(vars(own)[method]).parameters)[1:], names.split())
        for made in (TURNS, DIALS, ODD, LINE, SMALL, LAND, DESK):
            home = CLASSES[type(made).__module__.split(".")[1]]
            for attribute in home[type(made).__name__][1].split():
                self.assertIn(attribute, vars(made))

    def test_by_position_and_by_name(self):
        for function, names, given in calls():
            expected = function(*given)
            self.assertEqual(function(**dict(zip(names, given))), expected)
            turned = dict(reversed(list(zip(names, given))))
            self.assertEqual(function(**turned), expected)
            self.assertEqual(function(*given[:1], **dict(zip(names[1:], given[1:]))), expected)
        self.assertEqual(Board(size=2, signs=[0, 1, 1], values=2), MOST)
        self.assertEqual(Dials(marks=[[0], [1], [2]], rounds=[4]), DIALS)
        self.assertEqual([MOST.sign(bag=(0, 1)), MOST(bag=(0, 1)), DIALS.sum_of(bag=(1, 1))], [1, 1, (2,)])
        self.assertEqual(Total(signs=[5, 7], steps=[[0, 1], [1, 0]], values=2), ODD)
        self.assertEqual([ODD.stand(things=[1]), ODD.sign(things=[1])], [1, 7])
        self.assertEqual(Scene(readers=[(COUNTS, [[0, 1], [1, 2]])], stints=3), PAIR)
        self.assertEqual([PAIR.board(size=2, reader=0), PAIR.sign(history=[0, 1, 1], ask=1, reader=0)], [COUNTS, 2])
        self.assertEqual(Web(ties=list(SMALL.ties), places=3), SMALL)
        self.assertEqual(Land(roads=list(LAND.roads), towns=3), LAND)
        self.assertEqual(Desk(inside=[0, 1], held=False, values=[0, 1, 1], rows=3, dials=STEPS), DESK)

    def test_lists_and_tuples_alike(self):
        for function, names, given in calls():
            expected = function(*given)
            found = function(*[with_tuples(each) for each in given])
            self.assertEqual(found, expected)
            self.assertEqual(state(found), state(expected))

    def test_lists_are_new(self):
        for function, names, given in calls():
            first, second = function(*given), function(*given)
            self.assertEqual(state(first), state(second))
            both = lists_in(first) + lists_in(second) + lists_in(given)
            self.assertEqual(len({id(each) for each in both}), len(both), function.__name__)
            for each in lists_in(first):
                each.clear()
            self.assertEqual(state(function(*given)), state(second))

    def test_arguments_are_not_changed(self):
        for function, names, given in calls():
            before = [state(each) for each in given]
            function(*given)
            self.assertEqual([state(each) for each in given], before)

    def test_equal_arguments_give_equal_results(self):
        for function, names, given in calls():
            self.assertEqual(state(function(*copy.deepcopy(given))), state(function(*given)))

    def test_judges_take_any_value(self):
        judges = 0
        for function, names, given in calls():
            if function.__name__.startswith("is_"):
                judges += 1
                self.assertIs(function(*given), True)
                for value in any_values():
                    before = state(value)
                    self.assertIs(type(function(*given[:-1], value)), bool)
                    self.assertIs(type(function(*given[:-1], value=value)), bool)
                    self.assertEqual(state(value), before)
                self.assertIs(function(*given[:-1], None), False)
        self.assertEqual(judges, 36)


if __name__ == "__main__":
    unittest.main()
