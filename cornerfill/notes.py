"""Boards written as texts, one line for each row."""

from cornerfill.board import Board, is_side
from cornerfill.errors import NoText

OPEN_SIGN = "."
GAP_SIGN = "#"
LINE_END = "\n"


def shown(board):
    gaps = board.gaps()
    lines = []
    for y in range(board.height()):
        signs = [GAP_SIGN if (x, y) in gaps else OPEN_SIGN for x in range(board.width())]
        lines.append("".join(signs) + LINE_END)
    return "".join(lines)


def split_rows(text):
    if not text.endswith(LINE_END):
        raise NoText("no line end at the end")
    return text.split(LINE_END)[:-1]


def refuse_bad_rows(rows):
    if not is_side(len(rows)) or not is_side(len(rows[0])):
        raise NoText("a board has 1 to 16 rows of 1 to 16 cells")
    for row in rows:
        if len(row) != len(rows[0]):
            raise NoText("rows of unlike lengths")
        if row.count(OPEN_SIGN) + row.count(GAP_SIGN) != len(row):
            raise NoText("a sign that is neither an open cell nor a gap")


def read(text):
    rows = split_rows(text)
    refuse_bad_rows(rows)
    gaps = []
    for y, row in enumerate(rows):
        for x, sign in enumerate(row):
            if sign == GAP_SIGN:
                gaps.append((x, y))
    return Board(len(rows[0]), len(rows), gaps)
