import itertools
import unittest

from cornerfill.board import Board
from cornerfill.corners import is_filling
from cornerfill.errors import BadGap, BadSides, FillError, HasGaps, NoText, NotOneGap, TooMany
from cornerfill.squares import square_filling

REFUSALS = (BadSides, BadGap, NotOneGap, HasGaps, TooMany, NoText)
# The number of corners of each side, written out.
CORNERS = {1: 0, 2: 1, 4: 5, 8: 21, 16: 85}


def all_cells(width, height):
    return sorted((x, y) for y in range(height) for x in range(width))


class SquareFillings(unittest.TestCase):
    def check(self, side, gap):
        board = Board(side, side, [gap])
        told = square_filling(board)
        self.assertIs(type(told), list)
        self.assertTrue(is_filling(board, told), (side, gap))
        self.assertEqual(len(told), CORNERS[side])
        # Looked at once more without is_filling.
        used = sorted(cell for corner in told for cell in corner)
        self.assertEqual(used, board.open_cells())
        for corner in told:
            self.assertIs(type(corner), tuple)
            self.assertEqual(list(corner), sorted(corner))
            self.assertEqual([type(cell) for cell in corner], [tuple, tuple, tuple])
            self.assertEqual([max(n) - min(n) for n in zip(*corner)], [1, 1])

    def test_the_gap_at_every_cell(self):
        for side in CORNERS:
            for gap in all_cells(side, side):
                self.check(side, gap)

    def test_the_numbers_of_corners_follow_the_rule(self):
        self.assertEqual(CORNERS, {2 ** k: (4 ** k - 1) // 3 for k in range(5)})

    def test_a_single_cell_has_the_empty_filling(self):
        self.assertEqual(square_filling(Board(1, 1, [(0, 0)])), [])

    def test_squares_of_four_cells_written_out(self):
        self.assertEqual(square_filling(Board(2, 2, [(0, 0)])), [((0, 1), (1, 0), (1, 1))])
        self.assertEqual(square_filling(Board(2, 2, [(0, 1)])), [((0, 0), (1, 0), (1, 1))])
        self.assertEqual(square_filling(Board(2, 2, [(1, 0)])), [((0, 0), (0, 1), (1, 1))])
        self.assertEqual(square_filling(Board(2, 2, [(1, 1)])), [((0, 0), (0, 1), (1, 0))])


class Refusals(unittest.TestCase):
    def refused(self, refusal, width, height, gaps):
        with self.subTest(width=width, height=height, gaps=len(gaps)):
            board = Board(width, height, gaps)
            with self.assertRaises(FillError) as caught:
                square_filling(board)
            self.assertIsInstance(caught.exception, ValueError)
            self.assertEqual([one for one in REFUSALS if isinstance(caught.exception, one)], [refusal])
            self.assertEqual((board.width(), board.height(), board.gaps()), (width, height, sorted(gaps)))

    def test_every_other_pair_of_sides(self):
        for width, height in itertools.product(range(1, 17), repeat=2):
            if width != height or width not in CORNERS:
                self.refused(BadSides, width, height, [(width - 1, height - 1)])

    def test_unlike_sides_that_are_both_powers(self):
        for width, height in itertools.permutations(CORNERS, 2):
            self.refused(BadSides, width, height, [(0, 0)])

    def test_bad_sides_go_ahead_of_the_gaps(self):
        for width, height in ((3, 3), (2, 4), (4, 2), (1, 2), (8, 16), (12, 12), (15, 15), (1, 16)):
            cells = all_cells(width, height)
            for gaps in ([], cells[:1], cells[:2], cells[1:], cells):
                self.refused(BadSides, width, height, gaps)

    def test_not_one_gap(self):
        for side in CORNERS:
            self.refused(NotOneGap, side, side, [])
            if side > 1:
                cells = all_cells(side, side)
                self.refused(NotOneGap, side, side, cells[:2])
                self.refused(NotOneGap, side, side, [cells[-1], cells[0]])
                self.refused(NotOneGap, side, side, cells[:4])
                self.refused(NotOneGap, side, side, cells[1:])
                self.refused(NotOneGap, side, side, cells)

    def test_boards_that_have_a_filling_but_four_gaps(self):
        self.refused(NotOneGap, 4, 4, [(0, 0), (0, 1), (1, 0), (1, 1)])


if __name__ == "__main__":
    unittest.main()
