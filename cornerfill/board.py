"""Boards: their sides, their gaps and their open cells."""

from cornerfill.errors import BadGap, BadSides

SMALLEST_SIDE = 1
LARGEST_SIDE = 16


def is_side(number):
    return SMALLEST_SIDE <= number <= LARGEST_SIDE


def rising_cells(width, height):
    cells = []
    for x in range(width):
        for y in range(height):
            cells.append((x, y))
    return cells


def gap_marks(cells, gaps):
    marks = {}
    for cell in cells:
        marks[cell] = False
    for gap in gaps:
        if gap not in marks:
            raise BadGap("a gap is no cell of the board")
        if marks[gap]:
            raise BadGap("a gap is told twice")
        marks[gap] = True
    return marks


class Board:
    def __init__(self, width, height, gaps):
        # The errors name no number: one that is far off may be too long to be written.
        if not is_side(width) or not is_side(height):
            raise BadSides("a side of a board is from 1 to 16")
        cells = rising_cells(width, height)
        marks = gap_marks(cells, gaps)
        self.cells_across = width
        self.cells_down = height
        self.gap_cells = [cell for cell in cells if marks[cell]]
        self.free_cells = [cell for cell in cells if not marks[cell]]

    def width(self):
        return self.cells_across

    def height(self):
        return self.cells_down

    # The lists are copied, so that whoever asks may change what is told.
    def gaps(self):
        return list(self.gap_cells)

    def open_cells(self):
        return list(self.free_cells)


def turned(board):
    last_row = board.height() - 1
    gaps = [(last_row - y, x) for x, y in board.gaps()]
    return Board(board.height(), board.width(), gaps)
