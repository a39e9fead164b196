import unittest

from cornerfill.board import Board, turned
from cornerfill.errors import BadGap, BadSides, FillError, HasGaps, NoText, NotOneGap, TooMany

FAR = 10 ** 30
# Longer than Python is willing to write out as a text.
VERY_FAR = 10 ** 6000
REFUSALS = (BadSides, BadGap, NotOneGap, HasGaps, TooMany, NoText)


def all_cells(width, height):
    return sorted((x, y) for y in range(height) for x in range(width))


def some_gaps(width, height, step):
    return [cell for k, cell in enumerate(all_cells(width, height)) if k % step == 0]


def facts(board):
    return (board.width(), board.height(), board.gaps(), board.open_cells())


class OrdinaryBoards(unittest.TestCase):
    def check(self, width, height, gaps):
        board = Board(width, height, gaps)
        rest = [cell for cell in all_cells(width, height) if cell not in gaps]
        self.assertEqual(facts(board), (width, height, sorted(gaps), rest))
        self.assertIs(type(board.gaps()), list)
        self.assertIs(type(board.open_cells()), list)
        for cell in board.gaps() + board.open_cells():
            self.assertIs(type(cell), tuple)
            self.assertEqual([type(number) for number in cell], [int, int])

    def test_a_board_written_out(self):
        board = Board(3, 2, [(2, 0), (0, 1)])
        self.assertEqual(board.width(), 3)
        self.assertEqual(board.height(), 2)
        self.assertEqual(board.gaps(), [(0, 1), (2, 0)])
        self.assertEqual(board.open_cells(), [(0, 0), (1, 0), (1, 1), (2, 1)])

    def test_all_sides_without_gaps_with_some_and_with_all(self):
        for width in range(1, 17):
            for height in range(1, 17):
                with self.subTest(width=width, height=height):
                    self.check(width, height, [])
                    self.check(width, height, some_gaps(width, height, 3))
                    self.check(width, height, all_cells(width, height))

    def test_the_smallest_board(self):
        self.assertEqual(facts(Board(1, 1, [])), (1, 1, [], [(0, 0)]))
        self.assertEqual(facts(Board(1, 1, [(0, 0)])), (1, 1, [(0, 0)], []))

    def test_the_largest_board(self):
        board = Board(16, 16, [(15, 15), (0, 15), (15, 0), (0, 0)])
        self.assertEqual(board.gaps(), [(0, 0), (0, 15), (15, 0), (15, 15)])
        self.assertEqual(len(board.open_cells()), 252)

    def test_two_digit_places_rise_as_numbers(self):
        self.assertEqual(Board(16, 1, [(10, 0), (9, 0), (2, 0)]).gaps(), [(2, 0), (9, 0), (10, 0)])
        self.assertEqual(Board(1, 16, [(0, 10), (0, 9), (0, 2)]).gaps(), [(0, 2), (0, 9), (0, 10)])

    def test_gaps_in_any_order(self):
        gaps = [(0, 0), (0, 2), (1, 1), (3, 0), (3, 2)]
        for k in range(len(gaps)):
            shifted = gaps[k:] + gaps[:k]
            self.assertEqual(Board(4, 3, shifted).gaps(), gaps)
            self.assertEqual(Board(4, 3, shifted[::-1]).gaps(), gaps)

    def test_gaps_at_every_cell_of_a_board(self):
        for cell in all_cells(5, 3):
            self.check(5, 3, [cell])


class NothingKept(unittest.TestCase):
    def test_the_list_handed_in_stays_as_it_was(self):
        gaps = [(2, 1), (0, 0), (1, 1)]
        board = Board(3, 2, gaps)
        facts(board)
        turned(board)
        self.assertEqual(gaps, [(2, 1), (0, 0), (1, 1)])

    def test_a_refused_list_stays_as_it_was(self):
        gaps = [(2, 1), (0, 0), (2, 1)]
        with self.assertRaises(BadGap):
            Board(3, 2, gaps)
        self.assertEqual(gaps, [(2, 1), (0, 0), (2, 1)])

    def test_changing_the_list_behind_the_making_changes_nothing(self):
        for handed in ([], [(0, 0)], [(2, 1), (0, 0)], all_cells(3, 2)):
            gaps = list(handed)
            board = Board(3, 2, gaps)
            before = facts(Board(3, 2, handed))
            gaps.append((1, 1))
            self.assertEqual(facts(board), before)
            gaps.clear()
            self.assertEqual(facts(board), before)

    def test_changing_a_told_list_changes_nothing(self):
        board = Board(3, 2, [(2, 1), (0, 0)])
        before = facts(board)
        for told in (board.gaps(), board.open_cells()):
            told.append((7, 7))
            told.reverse()
            self.assertEqual(facts(board), before)
            told.clear()
            self.assertEqual(facts(board), before)

    def test_no_two_told_lists_are_one(self):
        for gaps in ([], [(0, 0)], all_cells(2, 2)):
            board = Board(2, 2, gaps)
            lists = [board.gaps(), board.gaps(), board.open_cells(), board.open_cells(), gaps]
            lists.extend([turned(board).gaps(), turned(board).open_cells()])
            self.assertEqual(len(set(id(told) for told in lists)), len(lists))

    def test_two_boards_of_one_list_share_nothing(self):
        gaps = [(0, 0)]
        one = Board(2, 2, gaps)
        other = Board(2, 2, gaps)
        one.gaps().clear()
        one.open_cells().clear()
        self.assertEqual(facts(other), (2, 2, [(0, 0)], [(0, 1), (1, 0), (1, 1)]))


class Refusals(unittest.TestCase):
    def refused(self, refusal, width, height, gaps):
        with self.subTest(refusal=refusal.__name__, bits=(width.bit_length(), height.bit_length())):
            with self.assertRaises(FillError) as caught:
                Board(width, height, gaps)
            self.assertIsInstance(caught.exception, ValueError)
            under = [one for one in REFUSALS if isinstance(caught.exception, one)]
            self.assertEqual(under, [refusal])

    def test_sides_out_of_bounds(self):
        for side in (0, 17, -1, -16, 18, 256, FAR, -FAR, VERY_FAR, -VERY_FAR):
            for other in (1, 5, 16):
                self.refused(BadSides, side, other, [])
                self.refused(BadSides, other, side, [])
            self.refused(BadSides, side, side, [])

    def test_bad_sides_go_ahead_of_bad_gaps(self):
        for side in (0, 17, -1, FAR, -FAR):
            for gaps in ([(-1, 0)], [(0, -1)], [(0, 0), (0, 0)], [(FAR, FAR)], [(16, 16)]):
                self.refused(BadSides, side, 4, gaps)
                self.refused(BadSides, 4, side, gaps)

    def test_sides_at_the_bounds_are_taken(self):
        for width, height in ((1, 1), (1, 16), (16, 1), (16, 16)):
            self.assertEqual(len(Board(width, height, []).open_cells()), width * height)

    def test_gaps_outside(self):
        for width, height in ((1, 1), (3, 5), (5, 3), (1, 16), (16, 1), (16, 16)):
            for x in (0, width - 1):
                for y in (-1, height, -height, height + 1, FAR, -FAR, VERY_FAR, -VERY_FAR):
                    self.refused(BadGap, width, height, [(x, y)])
            for y in (0, height - 1):
                for x in (-1, width, -width, width + 1, FAR, -FAR, VERY_FAR, -VERY_FAR):
                    self.refused(BadGap, width, height, [(x, y)])

    def test_a_gap_with_its_places_changed_round_is_outside(self):
        self.assertEqual(Board(5, 3, [(4, 2)]).gaps(), [(4, 2)])
        self.refused(BadGap, 5, 3, [(2, 4)])

    def test_a_bad_gap_among_good_ones(self):
        good = [(0, 0), (1, 2), (2, 1)]
        for place in range(4):
            self.refused(BadGap, 3, 3, good[:place] + [(3, 0)] + good[place:])

    def test_a_gap_told_twice(self):
        self.refused(BadGap, 1, 1, [(0, 0), (0, 0)])
        self.refused(BadGap, 3, 3, [(1, 1), (0, 0), (1, 1)])
        self.refused(BadGap, 3, 3, [(1, 1), (1, 1), (1, 1)])
        self.refused(BadGap, 16, 16, all_cells(16, 16) + [(15, 15)])
        self.refused(BadGap, 3, 3, [(5, 5), (5, 5)])


class Turned(unittest.TestCase):
    def test_a_board_written_out(self):
        board = turned(Board(3, 2, [(0, 0), (2, 1)]))
        self.assertIs(type(board), Board)
        self.assertEqual(facts(board), (2, 3, [(0, 2), (1, 0)], [(0, 0), (0, 1), (1, 1), (1, 2)]))

    def test_each_cell_goes_to_its_place(self):
        for width, height in ((1, 1), (1, 16), (16, 1), (2, 5), (7, 4), (4, 4), (16, 15)):
            for x, y in all_cells(width, height):
                board = turned(Board(width, height, [(x, y)]))
                self.assertEqual((board.width(), board.height()), (height, width))
                self.assertEqual(board.gaps(), [(height - 1 - y, x)])

    def test_gaps_and_open_cells_of_a_turned_board(self):
        board = Board(5, 3, some_gaps(5, 3, 4))
        quarter = turned(board)
        self.assertEqual(quarter.gaps(), sorted((2 - y, x) for x, y in board.gaps()))
        self.assertEqual(quarter.open_cells(), sorted((2 - y, x) for x, y in board.open_cells()))

    def test_four_quarters_give_the_first_board(self):
        for width, height in ((1, 1), (1, 16), (3, 5), (6, 2), (4, 4), (16, 16)):
            for gaps in ([], some_gaps(width, height, 3), all_cells(width, height)):
                board = Board(width, height, gaps)
                self.assertEqual(facts(turned(turned(turned(turned(board))))), facts(board))

    def test_two_quarters_are_a_half(self):
        half = turned(turned(Board(4, 3, [(0, 0), (1, 2)])))
        self.assertEqual((half.width(), half.height(), half.gaps()), (4, 3, [(2, 0), (3, 2)]))

    def test_the_first_board_stays_as_it_was(self):
        board = Board(4, 3, [(3, 0), (1, 2)])
        before = facts(board)
        quarter = turned(board)
        quarter.gaps().clear()
        self.assertIsNot(quarter, board)
        self.assertEqual(facts(board), before)


if __name__ == "__main__":
    unittest.main()
