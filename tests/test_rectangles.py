import itertools
import unittest

from cornerfill.board import Board
from cornerfill.corners import is_filling
from cornerfill.errors import BadGap, BadSides, FillError, HasGaps, NoText, NotOneGap, TooMany
from cornerfill.rectangles import rectangle_filling
from cornerfill.small import how_many

REFUSALS = (BadSides, BadGap, NotOneGap, HasGaps, TooMany, NoText)
EVERY_PAIR = list(itertools.product(range(1, 17), repeat=2))


# Point 6 of the document, word by word.
def has_filling(width, height):
    three_by_odd = (width, height % 2) == (3, 1) or (height, width % 2) == (3, 1)
    return (width * height) % 3 == 0 and 1 not in (width, height) and not three_by_odd


def all_cells(width, height):
    return sorted((x, y) for y in range(height) for x in range(width))


class RectangleFillings(unittest.TestCase):
    def check_filled(self, width, height):
        board = Board(width, height, [])
        told = rectangle_filling(board)
        self.assertIs(type(told), list)
        self.assertTrue(is_filling(board, told))
        self.assertEqual(len(told), width * height // 3)
        # Looked at once more without is_filling.
        used = sorted(cell for corner in told for cell in corner)
        self.assertEqual(used, all_cells(width, height))
        for corner in told:
            self.assertIs(type(corner), tuple)
            self.assertEqual(list(corner), sorted(corner))
            self.assertEqual([type(cell) for cell in corner], [tuple, tuple, tuple])
            self.assertEqual([max(n) - min(n) for n in zip(*corner)], [1, 1])

    def test_every_pair_of_sides(self):
        for width, height in EVERY_PAIR:
            with self.subTest(width=width, height=height):
                if has_filling(width, height):
                    self.check_filled(width, height)
                else:
                    self.assertIsNone(rectangle_filling(Board(width, height, [])))

    def test_sides_written_out_that_have_a_filling(self):
        for width, height in ((2, 3), (3, 2), (3, 16), (16, 3), (5, 6), (6, 5), (9, 5), (5, 9), (15, 15), (7, 15), (13, 9)):
            with self.subTest(width=width, height=height):
                self.check_filled(width, height)

    def test_sides_written_out_that_have_none(self):
        nones = ((1, 1), (1, 3), (3, 1), (1, 15), (15, 1), (2, 2), (3, 3), (3, 5), (5, 3), (3, 15), (15, 3), (9, 3),
                 (4, 4), (5, 5), (16, 16), (14, 13), (1, 6), (12, 1))
        for width, height in nones:
            with self.subTest(width=width, height=height):
                self.assertIsNone(rectangle_filling(Board(width, height, [])))

    def test_the_counts_of_small_boards_agree(self):
        for width, height in itertools.product(range(1, 9), repeat=2):
            if width * height <= 30:
                with self.subTest(width=width, height=height):
                    told = rectangle_filling(Board(width, height, []))
                    self.assertEqual(how_many(Board(width, height, [])) > 0, told is not None)


class Refusals(unittest.TestCase):
    def refused(self, width, height, gaps):
        with self.subTest(width=width, height=height, gaps=len(gaps)):
            board = Board(width, height, gaps)
            with self.assertRaises(FillError) as caught:
                rectangle_filling(board)
            self.assertIsInstance(caught.exception, ValueError)
            self.assertEqual([one for one in REFUSALS if isinstance(caught.exception, one)], [HasGaps])
            self.assertEqual((board.width(), board.height(), board.gaps()), (width, height, sorted(gaps)))

    def test_one_gap_and_all_gaps_at_every_pair_of_sides(self):
        for width, height in EVERY_PAIR:
            self.refused(width, height, [(width - 1, height - 1)])
            self.refused(width, height, all_cells(width, height))

    def test_one_gap_at_every_cell(self):
        for width, height in ((2, 3), (4, 4), (3, 5), (1, 7)):
            for gap in all_cells(width, height):
                self.refused(width, height, [gap])

    def test_some_gaps(self):
        for width, height in ((6, 6), (4, 4), (3, 3), (1, 16), (16, 16), (5, 9)):
            for step in (2, 3, 5):
                self.refused(width, height, all_cells(width, height)[::step])

    def test_a_gap_whose_board_has_a_filling(self):
        self.refused(2, 2, [(0, 0)])
        self.refused(3, 3, [(0, 2), (1, 1), (2, 0)])


if __name__ == "__main__":
    unittest.main()
