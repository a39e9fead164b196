"""Corners of three cells, and the fillings that they make."""


def corners_of_square(x, y):
    # The four cells stand rising, so the three that stay rise too.
    square = [(x, y), (x, y + 1), (x + 1, y), (x + 1, y + 1)]
    found = []
    for left_out in square:
        found.append(tuple([cell for cell in square if cell != left_out]))
    return found


def marked(values):
    marks = {}
    for value in values:
        marks[value] = True
    return marks


def corners(board):
    free = marked(board.open_cells())
    found = []
    for x in range(board.width() - 1):
        for y in range(board.height() - 1):
            for corner in corners_of_square(x, y):
                if all([cell in free for cell in corner]):
                    found.append(corner)
    return sorted(found)


def is_filling(board, some):
    fitting = marked(corners(board))
    covered = {}
    for corner in some:
        if corner not in fitting:
            return False
        for cell in corner:
            if cell in covered:
                return False
            covered[cell] = True
    # Corners that fit cover open cells alone, so their number tells whether all are covered.
    return len(covered) == len(board.open_cells())
