import itertools
import unittest

from cornerfill.board import Board, turned
from cornerfill.corners import corners, is_filling
from cornerfill.errors import BadGap, BadSides, FillError, HasGaps, NoText, NotOneGap, TooMany
from cornerfill.small import how_many, small_filling

REFUSALS = (BadSides, BadGap, NotOneGap, HasGaps, TooMany, NoText)
KNOWN = {
    (2, 3): 2, (2, 6): 4, (3, 4): 4, (3, 6): 8, (3, 8): 16, (4, 6): 18, (5, 6): 72,
    (1, 3): 0, (1, 6): 0, (3, 3): 0, (3, 5): 0, (3, 7): 0, (2, 2): 0, (4, 4): 0, (4, 7): 0, (5, 5): 0, (1, 1): 0,
}


def all_cells(width, height):
    return sorted((x, y) for y in range(height) for x in range(width))


def board_of(width, height, free):
    return Board(width, height, [cell for cell in all_cells(width, height) if cell not in free])


# A walk through its fillings ends at once, so that a refusal that is missing shows as a failure and not as a long wait.
def first_cell_alone(width, height):
    return Board(width, height, [(0, 1), (1, 0), (1, 1)])


def facts(board):
    return (board.width(), board.height(), board.gaps(), board.open_cells())


def is_corner(cells):
    xs, ys = zip(*cells)
    return max(xs) - min(xs) == 1 and max(ys) - min(ys) == 1


def count_by_choices(board):
    """Chooses as many corners as there must be, in all ways: slow, and only for boards with few corners."""
    free = board.open_cells()
    if len(free) % 3 != 0:
        return 0
    fitting = [three for three in itertools.combinations(free, 3) if is_corner(three)]
    chosen = itertools.combinations(fitting, len(free) // 3)
    return sum(1 for some in chosen if len(set(cell for three in some for cell in three)) == len(free))


def count_by_taking(board):
    """Takes or leaves one corner behind another, and counts the ways by the cells that are covered so far."""
    free = board.open_cells()
    known = set(free)
    fitting = []
    for x, y in all_cells(board.width(), board.height()):
        square = frozenset([(x, y), (x, y + 1), (x + 1, y), (x + 1, y + 1)])
        fitting.extend(square - {cell} for cell in sorted(square) if square - {cell} <= known)
    ways = {frozenset(): 1}
    for k, corner in enumerate(fitting):
        later = {}
        must = known - frozenset().union(*fitting[k + 1:])
        for covered, count in ways.items():
            after = [covered] if covered & corner else [covered, covered | corner]
            for cells in after:
                if must <= cells:
                    later[cells] = later.get(cells, 0) + count
        ways = later
    return ways.get(frozenset(free), 0)


class Checked(unittest.TestCase):
    def check(self, board, wanted):
        before = facts(board)
        count = how_many(board)
        told = small_filling(board)
        self.assertIs(type(count), int)
        self.assertEqual(count, wanted, before)
        self.assertEqual(facts(board), before)
        if wanted == 0:
            self.assertIsNone(told)
            return
        self.assertIs(type(told), list)
        self.assertTrue(is_filling(board, told))
        self.assertEqual(sorted(cell for corner in told for cell in corner), board.open_cells())
        for corner in told:
            self.assertIs(type(corner), tuple)
            self.assertEqual(list(corner), sorted(corner))
            self.assertTrue(is_corner(corner))


class Counts(Checked):
    def test_no_open_cell(self):
        for width, height in itertools.product(range(1, 9), repeat=2):
            self.check(Board(width, height, all_cells(width, height)), 1)
        self.assertEqual(small_filling(Board(1, 1, [(0, 0)])), [])

    def test_one_open_cell(self):
        for width, height in ((1, 1), (2, 2), (3, 4), (8, 8)):
            for cell in all_cells(width, height):
                self.check(board_of(width, height, [cell]), 0)

    def test_two_open_cells(self):
        for two in itertools.combinations(all_cells(3, 3), 2):
            self.check(board_of(3, 3, two), 0)
        self.check(Board(2, 1, []), 0)
        self.check(Board(1, 2, []), 0)

    def test_three_open_cells(self):
        for three in itertools.combinations(all_cells(4, 3), 3):
            self.check(board_of(4, 3, three), 1 if is_corner(three) else 0)
        self.check(board_of(8, 8, [(6, 7), (7, 6), (7, 7)]), 1)
        self.check(board_of(8, 8, [(0, 0), (3, 3), (7, 7)]), 0)

    def test_known_counts(self):
        for (width, height), count in KNOWN.items():
            self.check(Board(width, height, []), count)
            self.check(Board(height, width, []), count)

    def test_every_choice_of_gaps_of_small_boards(self):
        for width, height in ((3, 3), (2, 4), (4, 2)):
            cells = all_cells(width, height)
            for number in range(len(cells) + 1):
                for gaps in itertools.combinations(cells, number):
                    board = Board(width, height, list(gaps))
                    self.check(board, count_by_choices(board))

    def test_one_or_two_gaps_counted_by_taking(self):
        for width, height in ((4, 4), (5, 5), (2, 7), (7, 4), (3, 6)):
            cells = all_cells(width, height)
            number = len(cells) % 3
            for gaps in itertools.combinations(cells, number):
                board = Board(width, height, list(gaps))
                self.check(board, count_by_taking(board))

    def test_gaps_strewn_over_larger_boards(self):
        for width, height in ((6, 6), (8, 8), (8, 5), (5, 8), (7, 6)):
            cells = all_cells(width, height)
            for step in (2, 3, 5, 7):
                gaps = cells[::step]
                gaps.extend([cell for cell in cells if cell not in gaps][30:])
                board = Board(width, height, gaps)
                self.check(board, count_by_taking(board))

    def test_the_two_other_ways_agree(self):
        for (width, height), count in KNOWN.items():
            self.assertEqual(count_by_taking(Board(width, height, [])), count)
        for gap in all_cells(4, 4):
            board = Board(4, 4, [gap])
            self.assertEqual(count_by_choices(board), count_by_taking(board))

    def test_open_cells_not_three_times_something(self):
        for number in range(1, 31):
            if number % 3 != 0:
                self.check(board_of(8, 8, all_cells(8, 8)[:number]), 0)
                self.check(board_of(5, 6, all_cells(5, 6)[:number]), 0)

    def test_three_times_something_but_apart(self):
        self.check(board_of(8, 8, [(x, y) for x, y in all_cells(8, 8) if x % 2 == 0][:30]), 0)
        self.check(board_of(7, 7, [(x, y) for x, y in all_cells(7, 7) if (x + y) % 2 == 0][:24]), 0)

    def test_just_thirty_open_cells(self):
        self.check(Board(5, 6, []), 72)
        self.check(Board(6, 6, [(x, 5) for x in range(6)]), 72)
        self.check(Board(8, 8, [(x, y) for x, y in all_cells(8, 8) if x < 3 or y < 2]), 72)
        board = Board(6, 6, [(0, 0), (0, 5), (5, 0), (5, 5), (2, 2), (3, 3)])
        self.assertEqual(len(board.open_cells()), 30)
        self.check(board, count_by_taking(board))

    def test_apart_pieces_multiply(self):
        pieces = [(x, y) for x in (0, 1, 3, 4, 6, 7) for y in (0, 1, 2)]
        self.check(board_of(8, 3, pieces), 8)
        pieces = [(x, y) for x in (0, 1, 3, 4) for y in (0, 1, 2, 4, 5, 6)]
        self.check(board_of(8, 8, pieces), 16)

    def test_sides_of_eight(self):
        self.check(Board(8, 3, []), 16)
        self.check(Board(3, 8, []), 16)
        self.check(Board(8, 1, []), 0)
        self.check(Board(1, 8, []), 0)
        self.check(Board(8, 2, [(0, 0)]), count_by_taking(Board(8, 2, [(0, 0)])))
        for x, y in ((0, 0), (6, 0), (0, 6), (6, 6), (3, 4)):
            self.check(board_of(8, 8, [(x, y), (x, y + 1), (x + 1, y)]), 1)

    def test_the_counts_are_of_fillings_not_of_orders(self):
        self.check(board_of(8, 8, [(0, 0), (0, 1), (1, 0), (4, 4), (4, 5), (5, 4), (7, 7), (6, 7), (7, 6)]), 1)


class TurnedBoards(Checked):
    def boards(self):
        yield Board(1, 1, [])
        yield Board(1, 8, [(0, 3)])
        for width, height in ((2, 3), (3, 4), (5, 6), (8, 3), (4, 7)):
            yield Board(width, height, [])
        for width, height in ((5, 3), (4, 6), (7, 4), (8, 7), (6, 8)):
            cells = all_cells(width, height)
            for step in (4, 5, 7):
                gaps = cells[::step]
                gaps.extend([cell for cell in cells if cell not in gaps][27:])
                yield Board(width, height, gaps)
        for gap in all_cells(5, 5):
            yield Board(5, 5, [gap])
        for gap in all_cells(2, 8):
            yield Board(2, 8, [gap])

    def test_as_many_fillings_and_corners(self):
        seen = set()
        for board in self.boards():
            wanted = how_many(board)
            fitting = len(corners(board))
            seen.add(wanted)
            quarter = board
            for _ in range(4):
                quarter = turned(quarter)
                self.check(quarter, wanted)
                self.assertEqual(len(corners(quarter)), fitting)
            self.assertEqual(facts(quarter), facts(board))
        # Counts of one kind alone would show little.
        self.assertGreater(len(seen), 5)


class Refusals(unittest.TestCase):
    def refused(self, board):
        before = facts(board)
        for ask in (how_many, small_filling):
            with self.subTest(ask=ask.__name__, sides=before[:2], free=len(before[3])):
                with self.assertRaises(FillError) as caught:
                    ask(board)
                self.assertIsInstance(caught.exception, ValueError)
                self.assertEqual([one for one in REFUSALS if isinstance(caught.exception, one)], [TooMany])
                self.assertEqual(facts(board), before)

    def test_too_many_open_cells(self):
        self.refused(board_of(8, 8, all_cells(8, 8)[:31]))
        self.refused(board_of(6, 6, all_cells(6, 6)[5:]))
        self.refused(board_of(8, 8, all_cells(8, 8)[:33]))
        self.refused(Board(4, 8, []))
        self.refused(Board(8, 4, []))
        self.refused(Board(6, 6, []))
        self.refused(first_cell_alone(8, 8))

    def test_sides_that_are_too_long(self):
        for other in (1, 2, 3, 8, 9, 16):
            for side in (9, 10, 15, 16):
                cells = all_cells(side, other)
                turned_cells = [(y, x) for x, y in cells]
                for free in ([], cells[:1], [(0, 0), (0, 1), (1, 0)], cells[:30]):
                    self.refused(board_of(side, other, free))
                for free in ([], turned_cells[:1], [(0, 0), (0, 1), (1, 0)], turned_cells[:30]):
                    self.refused(board_of(other, side, free))

    def test_both_at_once(self):
        self.refused(first_cell_alone(16, 16))
        self.refused(first_cell_alone(9, 9))
        self.refused(Board(9, 4, []))
        self.refused(Board(4, 9, []))


if __name__ == "__main__":
    unittest.main()
