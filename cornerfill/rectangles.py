"""Boards without gaps, laid out with three small pictures."""

from cornerfill.errors import HasGaps

# In a picture, the cells that bear one letter are one corner.
STANDING = (
    "aa",
    "ab",
    "bb",
)
LYING = (
    "aab",
    "abb",
)
# The smallest board with both sides odd that has a filling.
ODD = (
    "aabcc",
    "dabbc",
    "ddeff",
    "geehf",
    "gghhi",
    "jkkii",
    "jjkll",
    "mnnol",
    "mmnoo",
)


def picture_corners(picture, left, top):
    cells_of = {}
    # Walked by places first, so that the cells of each letter rise.
    for x in range(len(picture[0])):
        for y in range(len(picture)):
            cells_of.setdefault(picture[y][x], []).append((left + x, top + y))
    return [tuple(cells) for cells in cells_of.values()]


def laid(picture, left, top, right, bottom):
    found = []
    for x in range(left, right, len(picture[0])):
        for y in range(top, bottom, len(picture)):
            found.extend(picture_corners(picture, x, y))
    return found


# The height is three times a whole number, and the board has a filling.
def fill_rectangle(width, height):
    if width % 2 == 0:
        return laid(STANDING, 0, 0, width, height)
    if height % 2 == 0:
        return laid(LYING, 0, 0, 3, height) + laid(STANDING, 3, 0, width, height)
    # Both sides are odd, so they are at least 5 and 9; what is left below ODD is 6 high or nothing.
    found = laid(ODD, 0, 0, 5, 9)
    found.extend(laid(LYING, 0, 9, 3, height))
    found.extend(laid(STANDING, 3, 9, 5, height))
    found.extend(laid(STANDING, 5, 0, width, height))
    return found


def swapped(corner):
    return tuple(sorted([(y, x) for x, y in corner]))


def is_three_by_odd(one, other):
    return one == 3 and other % 2 == 1


def can_be_filled(width, height):
    if width * height % 3 != 0 or width == 1 or height == 1:
        return False
    return not is_three_by_odd(width, height) and not is_three_by_odd(height, width)


def rectangle_filling(board):
    if board.gaps():
        raise HasGaps("the board has gaps")
    width = board.width()
    height = board.height()
    if not can_be_filled(width, height):
        return None
    if height % 3 == 0:
        return fill_rectangle(width, height)
    return [swapped(corner) for corner in fill_rectangle(height, width)]
