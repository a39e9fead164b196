"""Small boards, whose fillings are all walked through."""

from cornerfill.corners import corners
from cornerfill.errors import TooMany

MOST_OPEN_CELLS = 30
LONGEST_SIDE = 8


def refuse_unless_small(board):
    if max(board.width(), board.height()) > LONGEST_SIDE:
        raise TooMany("a side of a small board is at most 8")
    if len(board.open_cells()) > MOST_OPEN_CELLS:
        raise TooMany("a small board has at most 30 open cells")


def by_first_cell(board):
    grouped = {}
    for corner in corners(board):
        grouped.setdefault(corner[0], []).append(corner)
    return grouped


# The cells rise, so a corner that takes the first of them has it as its own first one: all before it are taken.
def next_corners(cells, grouped):
    return [corner for corner in grouped.get(cells[0], []) if all([cell in cells for cell in corner])]


def without(cells, corner):
    return [cell for cell in cells if cell not in corner]


def count_fillings(cells, grouped):
    if not cells:
        return 1
    return sum([count_fillings(without(cells, corner), grouped) for corner in next_corners(cells, grouped)])


def find_filling(cells, grouped):
    if not cells:
        return []
    for corner in next_corners(cells, grouped):
        others = find_filling(without(cells, corner), grouped)
        if others is not None:
            return [corner] + others
    return None


def how_many(board):
    refuse_unless_small(board)
    return count_fillings(board.open_cells(), by_first_cell(board))


def small_filling(board):
    refuse_unless_small(board)
    return find_filling(board.open_cells(), by_first_cell(board))
