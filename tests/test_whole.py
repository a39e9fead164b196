"""What holds over the whole program: nothing handed in is changed or kept, and what is told is the asker's own."""

import unittest

from cornerfill.board import Board, turned
from cornerfill.corners import corners, is_filling
from cornerfill.errors import FillError
from cornerfill.notes import read, shown
from cornerfill.rectangles import rectangle_filling
from cornerfill.small import how_many, small_filling
from cornerfill.squares import square_filling

ASKS = (square_filling, rectangle_filling, corners, turned, shown)
ASKS_OF_SMALL = (small_filling, how_many)
SIDES = ((1, 1), (2, 2), (2, 3), (3, 3), (4, 4), (5, 6), (6, 6), (1, 9), (9, 5), (8, 8), (16, 16), (15, 16))


def all_cells(width, height):
    return sorted((x, y) for y in range(height) for x in range(width))


def facts(board):
    return (board.width(), board.height(), board.gaps(), board.open_cells())


def answer(ask, board):
    try:
        told = ask(board)
    except FillError as refusal:
        return type(refusal)
    return facts(told) if isinstance(told, Board) else told


# Boards far from small are left out for those that walk through all: without their refusal they would not come back.
def asks_for(board):
    return ASKS + ASKS_OF_SMALL if len(board.open_cells()) <= 36 else ASKS


def some_boards():
    for width, height in SIDES:
        cells = all_cells(width, height)
        for gaps in ([], cells, cells[:1], cells[-1:], cells[:2], cells[::2], cells[30:]):
            yield Board(width, height, gaps)


class Whole(unittest.TestCase):
    def test_the_board_stays_as_it_was(self):
        for board in some_boards():
            before = facts(board)
            for ask in asks_for(board):
                answer(ask, board)
                self.assertEqual(facts(board), before, ask.__name__)
            read(shown(board))
            is_filling(board, corners(board))
            self.assertEqual(facts(board), before)

    def test_changing_a_told_list_changes_nothing_told_later(self):
        for board in some_boards():
            before = facts(board)
            for ask in asks_for(board):
                told = answer(ask, board)
                if isinstance(told, list):
                    again = list(told)
                    told.reverse()
                    told.append("mine")
                    later = answer(ask, board)
                    self.assertIsNot(later, told)
                    self.assertEqual(sorted(later), sorted(again))
                    told.clear()
                    self.assertEqual(sorted(answer(ask, board)), sorted(again))
                    self.assertEqual(facts(board), before)

    def test_changing_the_fillings_of_one_board_leaves_those_of_another(self):
        for ask, width, height, gaps in (
            (square_filling, 4, 4, [(1, 2)]),
            (square_filling, 1, 1, [(0, 0)]),
            (rectangle_filling, 5, 9, []),
            (rectangle_filling, 3, 2, []),
            (small_filling, 2, 3, []),
            (small_filling, 1, 1, [(0, 0)]),
        ):
            one = Board(width, height, gaps)
            other = Board(width, height, gaps)
            told = ask(one)
            told.clear()
            told.append("mine")
            self.assertTrue(is_filling(other, ask(other)))
            self.assertTrue(is_filling(one, ask(one)))

    def test_the_gaps_handed_in_are_not_kept(self):
        gaps = [(1, 1)]
        board = Board(4, 4, gaps)
        gaps.append((0, 0))
        self.assertTrue(is_filling(Board(4, 4, [(1, 1)]), square_filling(board)))
        gaps.clear()
        self.assertTrue(is_filling(Board(4, 4, [(1, 1)]), small_filling(board)))
        self.assertEqual(shown(board), "....\n.#..\n....\n....\n")

    def test_every_told_filling_is_one(self):
        found = 0
        for board in some_boards():
            for ask in asks_for(board):
                told = answer(ask, board)
                if isinstance(told, list) and ask != corners:
                    found += 1
                    self.assertTrue(is_filling(board, told))
                    self.assertTrue(all(corner in corners(board) for corner in told))
                    self.assertEqual(sorted(cell for corner in told for cell in corner), board.open_cells())
        self.assertGreater(found, 15)

    def test_a_board_without_open_cells_has_the_empty_filling(self):
        self.assertEqual(small_filling(Board(8, 8, all_cells(8, 8))), [])
        self.assertEqual(square_filling(Board(1, 1, [(0, 0)])), [])
        self.assertEqual(how_many(Board(3, 5, all_cells(3, 5))), 1)
        self.assertTrue(is_filling(Board(3, 5, all_cells(3, 5)), []))

    def test_where_two_functions_fill_one_board_both_do(self):
        for gap in all_cells(4, 4):
            board = Board(4, 4, [gap])
            self.assertEqual(len(square_filling(board)), len(small_filling(board)))
            self.assertGreater(how_many(board), 0)


if __name__ == "__main__":
    unittest.main()
