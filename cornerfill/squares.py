"""Square boards with one gap, halved until a single cell is left."""

from cornerfill.errors import BadSides, NotOneGap

SIDES = (1, 2, 4, 8, 16)
# They rise, so that the cells found by walking them rise too.
QUARTERS = ((0, 0), (0, 1), (1, 0), (1, 1))


def quarter_of(x, y, half, cell):
    return ((cell[0] - x) // half, (cell[1] - y) // half)


def middle_cell(x, y, half, quarter):
    return (x + half - 1 + quarter[0], y + half - 1 + quarter[1])


def fill_square(x, y, side, hole):
    if side == 1:
        return []
    half = side // 2
    holed = quarter_of(x, y, half, hole)
    # One corner in the middle takes a cell of each quarter without the hole, so that each quarter has one.
    found = [tuple([middle_cell(x, y, half, quarter) for quarter in QUARTERS if quarter != holed])]
    for quarter in QUARTERS:
        own_hole = hole if quarter == holed else middle_cell(x, y, half, quarter)
        found.extend(fill_square(x + half * quarter[0], y + half * quarter[1], half, own_hole))
    return found


def square_filling(board):
    if board.width() != board.height() or board.width() not in SIDES:
        raise BadSides("the sides are not both 1, 2, 4, 8 or 16")
    gaps = board.gaps()
    if len(gaps) != 1:
        raise NotOneGap("the board has not just one gap")
    return fill_square(0, 0, board.width(), gaps[0])
