import itertools
import unittest

from cornerfill.board import Board
from cornerfill.errors import BadGap, BadSides, FillError, HasGaps, NoText, NotOneGap, TooMany
from cornerfill.notes import read, shown

REFUSALS = (BadSides, BadGap, NotOneGap, HasGaps, TooMany, NoText)
# All that a text may hold beside the signs of a board and line ends.
OTHER_SIGNS = "\t" + "".join(chr(k) for k in range(ord(" "), ord("~") + 1) if chr(k) not in ".#%")


def all_cells(width, height):
    return sorted((x, y) for y in range(height) for x in range(width))


def facts(board):
    return (board.width(), board.height(), board.gaps(), board.open_cells())


class Shown(unittest.TestCase):
    def test_boards_written_out(self):
        self.assertEqual(shown(Board(1, 1, [])), ".\n")
        self.assertEqual(shown(Board(1, 1, [(0, 0)])), "#\n")
        self.assertEqual(shown(Board(3, 2, [(2, 0)])), "..#\n...\n")
        self.assertEqual(shown(Board(3, 2, [(0, 1), (1, 1)])), "...\n##.\n")
        self.assertEqual(shown(Board(2, 3, [(1, 0), (0, 2)])), ".#\n..\n#.\n")
        self.assertEqual(shown(Board(4, 1, [(3, 0)])), "...#\n")
        self.assertEqual(shown(Board(1, 4, [(0, 3)])), ".\n.\n.\n#\n")

    def test_the_largest_board(self):
        self.assertEqual(shown(Board(16, 16, [])), ("." * 16 + "\n") * 16)
        self.assertEqual(shown(Board(16, 16, all_cells(16, 16))), ("#" * 16 + "\n") * 16)

    def test_a_text_is_told_and_the_board_stays(self):
        board = Board(3, 2, [(2, 0)])
        before = facts(board)
        self.assertIs(type(shown(board)), str)
        self.assertEqual(facts(board), before)


class Read(unittest.TestCase):
    def test_texts_written_out(self):
        for text, width, height, gaps in (
            (".\n", 1, 1, []),
            ("#\n", 1, 1, [(0, 0)]),
            ("..#\n...\n", 3, 2, [(2, 0)]),
            ("...\n##.\n", 3, 2, [(0, 1), (1, 1)]),
            (".#\n..\n#.\n", 2, 3, [(0, 2), (1, 0)]),
            ("#\n" * 16, 1, 16, all_cells(1, 16)),
            ("." * 16 + "\n", 16, 1, []),
            (("." * 16 + "\n") * 15 + "." * 15 + "#\n", 16, 16, [(15, 15)]),
        ):
            board = read(text)
            self.assertIs(type(board), Board)
            self.assertEqual(facts(board), facts(Board(width, height, gaps)))

    def test_shown_and_read_again(self):
        for width, height in itertools.product(range(1, 17), repeat=2):
            cells = all_cells(width, height)
            for gaps in ([], cells, cells[::2], cells[::3], cells[:1], cells[-1:]):
                board = Board(width, height, gaps)
                text = shown(board)
                self.assertLessEqual(len(text), 400)
                self.assertEqual(facts(read(text)), facts(board))
                self.assertEqual(shown(read(text)), text)

    def test_every_text_of_six_signs(self):
        for signs in itertools.product(".#", repeat=6):
            text = "".join(signs[:3]) + "\n" + "".join(signs[3:]) + "\n"
            gaps = [(k % 3, k // 3) for k in range(6) if signs[k] == "#"]
            self.assertEqual(facts(read(text)), facts(Board(3, 2, gaps)))

    def test_two_readings_share_nothing(self):
        one = read("#.\n")
        other = read("#.\n")
        one.gaps().clear()
        one.open_cells().clear()
        self.assertEqual(facts(one), (2, 1, [(0, 0)], [(1, 0)]))
        self.assertEqual(facts(other), (2, 1, [(0, 0)], [(1, 0)]))


class Refusals(unittest.TestCase):
    def refused(self, text):
        with self.subTest(text=text):
            with self.assertRaises(FillError) as caught:
                read(text)
            self.assertIsInstance(caught.exception, ValueError)
            self.assertEqual([one for one in REFUSALS if isinstance(caught.exception, one)], [NoText])

    def test_empty_texts_and_line_ends_alone(self):
        self.refused("")
        for number in (1, 2, 3, 16, 17, 400):
            self.refused("\n" * number)

    def test_an_empty_line(self):
        self.refused("\n..\n..\n")
        self.refused("..\n\n..\n")
        self.refused("..\n..\n\n")
        self.refused("\n.\n")
        self.refused(".\n\n")
        self.refused(".\n\n.\n")
        self.refused("#\n\n\n")

    def test_rows_of_unlike_lengths(self):
        self.refused("..\n.\n")
        self.refused(".\n..\n")
        self.refused("...\n...\n..\n")
        self.refused("...\n..\n...\n")
        self.refused("..\n...\n...\n")
        self.refused("." * 16 + "\n" + "." * 15 + "\n")
        self.refused("." * 16 + "\n" + "." * 17 + "\n")

    def test_too_many_rows(self):
        for number in (17, 18, 200):
            self.refused(".\n" * number)
            self.refused("#\n" * number)
        self.refused(("." * 16 + "\n") * 17)
        self.refused(("." * 16 + "\n") * 30)

    def test_too_many_cells_in_a_row(self):
        for number in (17, 18, 399, 600):
            self.refused("." * number + "\n")
            self.refused("#" * number + "\n")
        self.refused(("." * 17 + "\n") * 16)
        self.refused(("#" * 17 + "\n") * 2)

    def test_no_line_end_at_the_end(self):
        for text in (".", "#", "..\n..", ".#\n#.\n..", "." * 16, ("." * 16 + "\n") * 15 + "." * 16):
            self.refused(text)
            read(text + "\n")

    def test_another_sign_anywhere(self):
        text = ".#.\n..#\n"
        for sign in OTHER_SIGNS:
            for place in range(len(text)):
                self.refused(text[:place] + sign + text[place + 1:])
            for place in range(len(text) + 1):
                self.refused(text[:place] + sign + text[place:])
            self.refused(sign)
            self.refused(sign + "\n")

    def test_one_sign_of_a_board_taken_out_or_put_in(self):
        text = "..#\n#..\n.#.\n"
        for place in range(len(text)):
            self.refused(text[:place] + text[place + 1:])
        for place in range(len(text) + 1):
            for sign in ".#\n":
                self.refused(text[:place] + sign + text[place:])

    def test_a_blank_around_a_board(self):
        for text in (" ..\n..\n", "..\n..\n ", "..\n..\n \n", "..\n.. \n", "..\n ..\n", "\t..\n", "..\t\n", "..\n\t"):
            self.refused(text)


if __name__ == "__main__":
    unittest.main()
