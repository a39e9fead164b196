import itertools
import unittest

from cornerfill.board import Board, turned
from cornerfill.corners import corners, is_filling

FAR = 10 ** 30
VERY_FAR = 10 ** 6000

TWO_BY_THREE = [((0, 0), (0, 1), (1, 0)), ((0, 2), (1, 1), (1, 2))]
# Fills the board of 4 by 4 whose one gap is (0, 0).
FOUR_BY_FOUR = [
    ((0, 1), (1, 0), (1, 1)),
    ((0, 2), (0, 3), (1, 3)),
    ((1, 2), (2, 1), (2, 2)),
    ((2, 0), (3, 0), (3, 1)),
    ((2, 3), (3, 2), (3, 3)),
]


def is_corner(cells):
    xs = [x for x, y in cells]
    ys = [y for x, y in cells]
    return len(set(cells)) == 3 and max(xs) - min(xs) == 1 and max(ys) - min(ys) == 1


# Looks at every three open cells, so it shares no thought with the program.
def corners_by_search(board):
    return [three for three in itertools.combinations(board.open_cells(), 3) if is_corner(three)]


def filling_by_search(board, some):
    used = [cell for three in some for cell in three]
    fitting = corners_by_search(board)
    return all(three in fitting for three in some) and sorted(used) == board.open_cells()


def facts(board):
    return (board.width(), board.height(), board.gaps(), board.open_cells())


class Corners(unittest.TestCase):
    def check(self, board):
        told = corners(board)
        self.assertIs(type(told), list)
        self.assertEqual(told, corners_by_search(board))
        self.assertEqual(told, sorted(set(told)))
        for corner in told:
            self.assertIs(type(corner), tuple)
            self.assertEqual(list(corner), sorted(corner))
            self.assertEqual([type(cell) for cell in corner], [tuple, tuple, tuple])

    def test_a_square_of_four_cells(self):
        self.assertEqual(corners(Board(2, 2, [])), [
            ((0, 0), (0, 1), (1, 0)),
            ((0, 0), (0, 1), (1, 1)),
            ((0, 0), (1, 0), (1, 1)),
            ((0, 1), (1, 0), (1, 1)),
        ])

    def test_one_gap_in_a_square_leaves_one_corner(self):
        cells = [(0, 0), (0, 1), (1, 0), (1, 1)]
        for gap in cells:
            rest = tuple(cell for cell in cells if cell != gap)
            self.assertEqual(corners(Board(2, 2, [gap])), [rest])

    def test_two_gaps_in_a_square_leave_none(self):
        for gaps in itertools.combinations([(0, 0), (0, 1), (1, 0), (1, 1)], 2):
            self.assertEqual(corners(Board(2, 2, list(gaps))), [])

    def test_boards_too_narrow(self):
        for side in range(1, 17):
            self.assertEqual(corners(Board(1, side, [])), [])
            self.assertEqual(corners(Board(side, 1, [])), [])

    def test_boards_without_gaps(self):
        for width, height in itertools.product(range(1, 6), repeat=2):
            self.check(Board(width, height, []))

    def test_boards_with_unlike_sides_and_gaps(self):
        for width, height in ((2, 7), (7, 2), (3, 5), (5, 3), (6, 4), (4, 6)):
            cells = Board(width, height, []).open_cells()
            for step in (2, 3, 4, 5, 7):
                self.check(Board(width, height, cells[::step][::-1]))

    def test_every_choice_of_gaps_of_a_small_board(self):
        cells = Board(3, 3, []).open_cells()
        for count in range(10):
            for gaps in itertools.combinations(cells, count):
                self.check(Board(3, 3, list(gaps)))

    def test_the_largest_board(self):
        board = Board(16, 16, [])
        told = corners(board)
        self.assertEqual(len(told), 15 * 15 * 4)
        self.assertEqual(told, sorted(set(told)))
        self.assertTrue(all(is_corner(corner) and list(corner) == sorted(corner) for corner in told))
        self.assertEqual(told[0], ((0, 0), (0, 1), (1, 0)))
        self.assertEqual(told[-1], ((14, 15), (15, 14), (15, 15)))

    def test_a_board_of_gaps_alone(self):
        self.assertEqual(corners(Board(16, 16, Board(16, 16, []).open_cells())), [])

    def test_a_turned_board_has_the_turned_corners(self):
        board = Board(5, 4, [(1, 1), (3, 0), (4, 3)])
        moved = [tuple(sorted((3 - y, x) for x, y in corner)) for corner in corners(board)]
        self.assertEqual(corners(turned(board)), sorted(moved))

    def test_the_told_list_is_the_askers_own(self):
        board = Board(3, 2, [(0, 0)])
        before = facts(board)
        told = corners(board)
        wanted = list(told)
        self.assertIsNot(told, corners(board))
        told.clear()
        self.assertEqual(corners(board), wanted)
        self.assertEqual(facts(board), before)

    def test_empty_told_lists_are_two(self):
        board = Board(1, 1, [])
        corners(board).append("mine")
        self.assertEqual(corners(board), [])


class Fillings(unittest.TestCase):
    def told(self, board, some):
        answer = is_filling(board, some)
        self.assertIs(type(answer), bool)
        return answer

    def yes(self, board, some):
        self.assertIs(self.told(board, some), True)

    def no(self, board, some):
        self.assertIs(self.told(board, some), False)

    def test_a_filling_in_any_order(self):
        for some in itertools.permutations(TWO_BY_THREE):
            self.yes(Board(2, 3, []), list(some))
        for some in itertools.permutations(FOUR_BY_FOUR):
            self.yes(Board(4, 4, [(0, 0)]), list(some))

    def test_the_empty_list(self):
        self.yes(Board(1, 1, [(0, 0)]), [])
        self.yes(Board(2, 3, Board(2, 3, []).open_cells()), [])
        self.yes(Board(16, 16, Board(16, 16, []).open_cells()), [])
        self.no(Board(1, 1, []), [])
        self.no(Board(2, 2, [(0, 0)]), [])
        self.no(Board(2, 2, [(0, 0), (0, 1), (1, 0)]), [])
        self.no(Board(16, 16, []), [])

    def test_a_corner_left_out(self):
        for k in range(len(FOUR_BY_FOUR)):
            self.no(Board(4, 4, [(0, 0)]), FOUR_BY_FOUR[:k] + FOUR_BY_FOUR[k + 1:])

    def test_a_corner_twice(self):
        for k in range(len(FOUR_BY_FOUR)):
            self.no(Board(4, 4, [(0, 0)]), FOUR_BY_FOUR + [FOUR_BY_FOUR[k]])
        self.no(Board(2, 3, []), [TWO_BY_THREE[0], TWO_BY_THREE[0]])
        self.no(Board(2, 2, [(1, 1)]), [TWO_BY_THREE[0], TWO_BY_THREE[0]])

    def test_a_corner_whose_cells_do_not_rise(self):
        for cells in itertools.permutations(TWO_BY_THREE[0]):
            rises = cells == TWO_BY_THREE[0]
            self.assertIs(self.told(Board(2, 3, []), [cells, TWO_BY_THREE[1]]), rises)
            self.assertIs(self.told(Board(2, 2, [(1, 1)]), [cells]), rises)

    def test_three_cells_in_a_row(self):
        self.no(Board(3, 1, []), [((0, 0), (1, 0), (2, 0))])
        self.no(Board(1, 3, []), [((0, 0), (0, 1), (0, 2))])
        self.no(Board(2, 3, []), [((0, 0), (0, 1), (0, 2)), ((1, 0), (1, 1), (1, 2))])

    def test_three_cells_apart(self):
        self.no(Board(3, 3, [(0, 1), (0, 2), (1, 0), (1, 2), (2, 0), (2, 1)]), [((0, 0), (1, 1), (2, 2))])
        self.no(Board(3, 2, [(1, 0), (1, 1), (2, 1)]), [((0, 0), (0, 1), (2, 0))])
        self.no(Board(2, 3, []), [((0, 0), (0, 1), (1, 2)), ((0, 2), (1, 0), (1, 1))])

    def test_a_cell_twice_in_three(self):
        self.no(Board(1, 2, []), [((0, 0), (0, 0), (0, 1))])
        self.no(Board(1, 1, []), [((0, 0), (0, 0), (0, 0))])
        self.no(Board(2, 2, [(0, 1), (1, 0)]), [((0, 0), (0, 0), (1, 1))])

    def test_a_corner_over_a_gap(self):
        self.no(Board(2, 3, [(0, 0)]), TWO_BY_THREE)
        self.no(Board(2, 2, [(0, 0), (0, 1), (1, 0), (1, 1)]), [TWO_BY_THREE[0]])
        self.no(Board(2, 3, TWO_BY_THREE[0]), TWO_BY_THREE)
        self.yes(Board(2, 3, TWO_BY_THREE[0]), TWO_BY_THREE[1:])

    def test_a_corner_out_of_the_board(self):
        board = Board(2, 2, [(1, 1)])
        inside = TWO_BY_THREE[0]
        self.yes(board, [inside])
        for dx, dy in ((2, 0), (0, 2), (-2, 0), (0, -2), (1, 1), (-1, -1), (FAR, 0), (0, -FAR), (-VERY_FAR, VERY_FAR)):
            outside = tuple((x + dx, y + dy) for x, y in inside)
            self.no(board, [outside])
            self.no(board, [inside, outside])
            self.no(board, [outside, inside])

    def test_a_corner_partly_out_of_the_board(self):
        self.no(Board(1, 2, []), [((0, 0), (0, 1), (1, 0))])
        self.no(Board(2, 1, []), [((0, 0), (0, 1), (1, 0))])
        self.no(Board(1, 2, []), [((-1, 0), (0, 0), (0, 1))])
        self.no(Board(2, 1, []), [((0, -1), (0, 0), (1, 0))])

    def test_numbers_below_nought_do_not_count_from_the_end(self):
        self.no(Board(2, 2, [(1, 1)]), [((-2, -2), (-2, -1), (-1, -2))])
        self.no(Board(2, 2, [(0, 0)]), [((-1, 0), (0, -1), (0, 0))])

    def test_cells_of_far_numbers(self):
        for number in (FAR, -FAR, VERY_FAR, -VERY_FAR):
            self.no(Board(2, 2, [(1, 1)]), [((number, number), (number, number + 1), (number + 1, number))])
            self.no(Board(1, 1, [(0, 0)]), [((0, number), (number, 0), (number, number))])

    def test_overlapping_corners(self):
        self.no(Board(2, 2, []), [((0, 0), (0, 1), (1, 0)), ((0, 1), (1, 0), (1, 1))])
        self.no(Board(2, 3, []), [((0, 0), (0, 1), (1, 0)), ((0, 1), (0, 2), (1, 2))])
        self.no(Board(2, 3, [(1, 1)]), [((0, 0), (0, 1), (1, 0)), ((0, 1), (0, 2), (1, 2))])

    def test_all_corners_of_a_board_overlap(self):
        board = Board(16, 16, [])
        self.no(board, corners(board))

    def test_every_choice_of_corners_of_small_boards(self):
        diagonal = [(0, 2), (1, 1), (2, 0)]
        # Each filling has two corners, so it comes in two orders.
        for board, orders in ((Board(2, 3, []), 4), (Board(3, 2, []), 4), (Board(3, 3, diagonal), 2)):
            found = 0
            for count in range(4):
                for some in itertools.product(corners(board), repeat=count):
                    wanted = filling_by_search(board, list(some))
                    self.assertIs(self.told(board, list(some)), wanted)
                    found += wanted
            self.assertEqual(found, orders)

    def test_a_large_filling(self):
        blocks = []
        for x in range(0, 16, 2):
            for y in range(0, 15, 3):
                for corner in TWO_BY_THREE:
                    blocks.append(tuple((x + dx, y + dy) for dx, dy in corner))
        self.yes(Board(16, 15, []), blocks[::-1])
        self.no(Board(16, 16, []), blocks)
        self.no(Board(16, 14, []), blocks)
        self.yes(Board(16, 16, [(x, 15) for x in range(16)]), blocks)

    def test_what_is_handed_in_stays_as_it_was(self):
        board = Board(4, 4, [(0, 0)])
        before = facts(board)
        for some in (FOUR_BY_FOUR[::-1], FOUR_BY_FOUR + FOUR_BY_FOUR, [((9, 9), (0, 0), (1, 1))], []):
            copy = list(some)
            first = is_filling(board, some)
            self.assertEqual(some, copy)
            self.assertEqual(facts(board), before)
            self.assertIs(is_filling(board, some), first)

    def test_a_list_changed_later_is_looked_at_anew(self):
        board = Board(2, 3, [])
        some = list(TWO_BY_THREE)
        self.yes(board, some)
        some.pop()
        self.no(board, some)
        some.append(TWO_BY_THREE[1])
        self.yes(board, some)


if __name__ == "__main__":
    unittest.main()
