import unittest

from manrent.errors import NoText, NothingThere
from manrent.page import read_page, read_row, shown_page, shown_row
from manrent.roll import Roll
from oracle import Dice, lively_rows, some_rows
from refusing import Refusing

WRITTEN = {
    "heir 1 ann bob": ("heir", 1, "ann", "bob"),
    "grant 5 - hill ann 30 2": ("grant", 5, "", "hill", "ann", 30, 2),
    "grant 5 hill dale ann 30 2": ("grant", 5, "hill", "dale", "ann", 30, 2),
    "part 7 hill dale bob 10": ("part", 7, "hill", "dale", "bob", 10),
    "convey 8 hill cat": ("convey", 8, "hill", "cat"),
    "liege 9 ann bob": ("liege", 9, "ann", "bob"),
    "liege 9 ann -": ("liege", 9, "ann", ""),
    "surrender 10 hill": ("surrender", 10, "hill"),
    "death 11 ann": ("death", 11, "ann"),
    # The bounds of numbers and names, and words that are names.
    "grant 0 - a b 1 0": ("grant", 0, "", "a", "b", 1, 0),
    "grant 9999 - abcdefgh zzzzzzzz 9999 9999": ("grant", 9999, "", "abcdefgh", "zzzzzzzz", 9999, 9999),
    "part 0 a a a 1": ("part", 0, "a", "a", "a", 1),
    "part 9999 hill dale bob 9999": ("part", 9999, "hill", "dale", "bob", 9999),
    "grant 5 grant grant grant 1 1": ("grant", 5, "grant", "grant", "grant", 1, 1),
    "death 0 land": ("death", 0, "land"),
    "surrender 9999 free": ("surrender", 9999, "free"),
    "heir 10 a z": ("heir", 10, "a", "z"),
}
NO_ROWS = [
    "", " ", "\n", "-", "1", "grant", "grant ", "feu 1 ann", "Death 1 ann", "deaths 1 ann", "1 death 1 ann",
    # A blank too many or too few.
    " death 1 ann", "death 1 ann ", "death  1 ann", "death 1  ann", "death1 ann", "death 1ann", "grant 5  hill ann 30 2",
    "grant 5 -  hill ann 30 2", "liege 9 ann ", "liege 9 ann  ", "death\t1 ann",
    # Words too few and too many.
    "death", "death 1", "death 1 ann bob", "heir 1 ann", "heir 1 ann bob cat", "part 7 hill dale bob 10 1",
    "part 7 hill dale bob", "grant 5 - hill ann 30", "grant 5 - hill ann 30 2 1", "surrender 10", "convey 8 hill",
    # Numbers ill written or out of bounds.
    "death 01 ann", "death 00 ann", "death 001 ann", "death -1 ann", "death +1 ann", "death - ann", "death x ann", "death 1.0 ann",
    "death 1_0 ann", "death 10000 ann", "death 999999 ann", "death 1000000 ann", "death 0000001 ann", "death 0x1 ann", "death 1,000 ann",
    "grant 5 - hill ann 0 2", "grant 5 - hill ann 10000 2", "grant 5 - hill ann 030 2", "grant 5 - hill ann 30 02",
    "grant 5 - hill ann 30 10000", "grant 5 - hill ann 30 -1", "grant 5 - hill ann - 2", "part 7 hill dale bob 0",
    "part 7 hill dale bob 0000010", "grant five - hill ann 30 2",
    # Names ill written, and the crown where it can't stand.
    "death 1 abcdefghi", "death 1 Ann", "death 1 an-n", "death 1 a1", "death 1 1", "death 1 -", "death 1 --", "heir 1 - ann",
    "heir 1 ann -", "part 7 - dale bob 10", "part 7 hill - bob 10", "part 7 hill dale - 10", "grant 5 - - ann 30 2",
    "grant 5 - hill - 30 2", "grant 5 -- hill ann 30 2", "grant 5 _ hill ann 30 2", "convey 8 - cat", "convey 8 hill -", "liege 9 - ann",
    "surrender 10 -", "grant 5 abcdefghi hill ann 30 2", "liege 9 ann --",
    # Line ends.
    "death 1 ann\n", "\ndeath 1 ann", "death\n1\nann", "death 1 an\nn", "death 1\n ann", "death 1 ann\ndeath 2 ann", "death 1\n2 ann",
    # Two like men.
    "heir 1 ann ann", "liege 1 ann ann",
]


class Rows(Refusing):
    def test_shown(self):
        for text, row in WRITTEN.items():
            self.assertEqual(shown_row(row), text)

    def test_read(self):
        for text, row in WRITTEN.items():
            with self.subTest(text=text):
                told = read_row(text)
                self.assertEqual(told, row)
                self.assertIs(type(told), tuple)
                self.assertEqual([type(piece) for piece in told], [type(piece) for piece in row])

    def test_there_and_back(self):
        for row in some_rows(Dice(6), 300, ["a", "hill", "abcdefgh"], ["ann", "b", "zzzzzzzz"], 9999):
            self.assertEqual(read_row(shown_row(row)), row)

    def test_no_rows(self):
        for text in NO_ROWS:
            with self.subTest(text=text):
                self.assertEqual(self.refused(NoText, read_row, text).at, 1)

    def test_each_sign_changed(self):
        # Whatever is read is written back as just that text.
        for text in WRITTEN:
            for at in range(len(text) + 1):
                for sign in " -09az\n/:`{A":
                    for other in (text[:at] + sign + text[at:], text[:at] + sign + text[at + 1:], text[:at] + text[at + 1:]):
                        try:
                            row = read_row(other)
                        except NoText as refusal:
                            self.assertEqual(refusal.at, 1)
                        else:
                            self.assertEqual(shown_row(row), other)


def told(roll):
    return (roll.acres(), roll.bears(), roll.free(), roll.rows())


class Pages(Refusing):
    def roll(self):
        """Rows 2, 3 and 6, the free number being 8."""
        roll = Roll(100, 2)
        texts = list(WRITTEN)
        roll.enter_all([read_row(text) for text in texts[:7]])
        for number in (1, 4, 5, 7):
            roll.strike(number)
        return roll

    def test_shown(self):
        self.assertEqual(shown_page(Roll(1, 0)), "land 1 0\nfree 1\n")
        self.assertEqual(shown_page(Roll(9999, 99)), "land 9999 99\nfree 1\n")
        self.assertEqual(shown_page(self.roll()), "land 100 2\nfree 8\n2 grant 5 - hill ann 30 2\n3 grant 5 hill dale ann 30 2\n"
                                                  "6 liege 9 ann bob\n")

    def test_shown_leaves_the_roll(self):
        roll = self.roll()
        before = told(roll)
        self.assertEqual(shown_page(roll), shown_page(roll))
        self.assertEqual(told(roll), before)
        roll.back()
        self.assertEqual(shown_page(roll).count("\n"), 6)
        self.assertEqual(shown_page(roll).splitlines()[-1], "7 liege 9 ann -")

    def test_read_back(self):
        for roll in (Roll(1, 0), Roll(9999, 99), self.roll()):
            page = shown_page(roll)
            other = read_page(page)
            self.assertIsInstance(other, Roll)
            self.assertEqual(told(other), told(roll))
            self.assertEqual(shown_page(other), page)
            self.refused(NothingThere, other.back)
            self.refused(NothingThere, other.again)

    def test_read_back_of_many(self):
        for seed in range(10):
            dice, roll = Dice(seed), Roll(60, seed)
            roll.enter_all(lively_rows(dice, 60, ["ann", "bob", "cat"]))
            for many in range(9):
                roll.strike(dice.of(roll.rows())[0])
            other = read_page(shown_page(roll))
            self.assertEqual(told(other), told(roll))
            self.assertEqual(other.court().verdicts(), roll.court().verdicts())

    def test_what_is_read_is_at_work(self):
        page = shown_page(self.roll())
        one, other = read_page(page), read_page(page)
        self.assertEqual(one.enter(("death", 11, "ann")), 8)
        self.assertEqual(one.strike(2), ("grant", 5, "", "hill", "ann", 30, 2))
        self.assertEqual(one.charter(3), "nowhere")
        self.assertEqual(told(other), told(self.roll()))
        one.back()
        one.back()
        self.assertEqual(told(one), told(other))
        self.refused(NothingThere, one.back)

    def test_numbers_far_apart(self):
        page = "land 10 0\nfree 999999\n1 death 1 ann\n77 death 2 ann\n999998 death 3 ann\n"
        roll = read_page(page)
        self.assertEqual(told(roll), (10, 0, 999999, [(1, ("death", 1, "ann")), (77, ("death", 2, "ann")), (999998, ("death", 3, "ann"))]))
        self.assertEqual(shown_page(roll), page)

    def wrong(self, at, text):
        with self.subTest(text=text):
            self.assertEqual(self.refused(NoText, read_page, text).at, at)

    def test_too_few_rows(self):
        self.wrong(1, "")
        self.wrong(2, "land 10 1\n")
        self.assertEqual(read_page("land 10 1\nfree 1\n").rows(), [])

    def test_the_last_line_end(self):
        self.wrong(1, "land 10 1")
        self.wrong(2, "land 10 1\nfree 3")
        self.wrong(3, "land 10 1\nfree 3\n1 death 1 ann")
        self.wrong(4, "land 10 1\nfree 3\n1 death 1 ann\n2 death 2 ann")
        self.wrong(3, "land 10 1\nfree 3\n ")
        self.wrong(3, "land 10 1\nfree 3\nfoo")
        # An earlier row goes first.
        self.wrong(1, "land 0 1\nfree 3")
        self.wrong(2, "land 10 1\nfree 0\n1 death 1 ann")
        self.wrong(3, "land 10 1\nfree 3\n3 death 1 ann\n2 death 2 ann")

    def test_the_land(self):
        for row in ("", "land", "land 10", "land 10 1 1", "land 0 1", "land 10000 1", "land 10 100", "land 10 -1", "land -1 1", "land 010 1",
                    "land 10 01", "land  10 1", "land 10  1", " land 10 1", "land 10 1 ", "Land 10 1", "lands 10 1", "free 10 1",
                    "land ten 1", "land 10 -", "land - 1", "10 1", "land 1000000 1", "land 10 0000001", "free 3", "1 death 1 ann"):
            self.wrong(1, row + "\nfree 3\n1 death 1 ann\n")
            self.wrong(1, row + "\n")
        for row, land in (("land 1 0", (1, 0)), ("land 9999 99", (9999, 99))):
            roll = read_page(row + "\nfree 3\n")
            self.assertEqual((roll.acres(), roll.bears()), land)

    def test_the_free_number(self):
        for row in ("", "free", "free 0", "free -1", "free 03", "free 3 1", "free  3", " free 3", "free 3 ", "Free 3", "frees 3", "land 3",
                    "free x", "free -", "3", "free 1000000", "free 0000003", "land 10 1", "1 death 1 ann"):
            self.wrong(2, "land 10 1\n" + row + "\n1 death 1 ann\n")
            self.wrong(2, "land 10 1\n" + row + "\n")
        self.assertEqual(read_page("land 10 1\nfree 999999\n").free(), 999999)

    def test_rows_exchanged(self):
        self.wrong(1, "free 3\nland 10 1\n1 death 1 ann\n")
        self.wrong(2, "land 10 1\n1 death 1 ann\nfree 3\n")
        self.wrong(4, "land 10 1\nfree 3\n2 death 1 ann\n1 death 2 ann\n")

    def test_numbers_that_do_not_rise(self):
        self.wrong(4, "land 10 1\nfree 9\n2 death 1 ann\n2 death 2 ann\n")
        self.wrong(5, "land 10 1\nfree 9\n2 death 1 ann\n5 death 2 ann\n4 death 3 ann\n")
        self.wrong(5, "land 10 1\nfree 9\n2 death 1 ann\n5 death 2 ann\n5 death 3 ann\n8 death 3 ann\n")

    def test_numbers_not_less_than_the_free_number(self):
        self.wrong(3, "land 10 1\nfree 1\n1 death 1 ann\n")
        self.wrong(4, "land 10 1\nfree 3\n1 death 1 ann\n3 death 2 ann\n")
        self.wrong(4, "land 10 1\nfree 3\n1 death 1 ann\n4 death 2 ann\n5 death 2 ann\n")
        self.assertEqual(read_page("land 10 1\nfree 3\n2 death 1 ann\n").rows(), [(2, ("death", 1, "ann"))])

    def test_numbers_ill_written(self):
        for number in ("0", "-1", "01", "+1", "", " ", "x", "-", "1000000", "0000001", "1.", "1 1", " 1"):
            self.wrong(3, f"land 10 1\nfree 3\n{number} death 1 ann\n")
            self.wrong(4, f"land 10 1\nfree 9\n1 death 9 ann\n{number} death 1 ann\n3 death 2 ann\n")
        self.wrong(3, "land 10 1\nfree 3\ndeath 1 ann\n")
        self.wrong(3, "land 10 1\nfree 3\n1death 1 ann\n")
        self.wrong(3, "land 10 1\nfree 3\n1  death 1 ann\n")
        self.wrong(3, "land 10 1\nfree 3\n1\n")
        self.wrong(3, "land 10 1\nfree 3\n1 \n")

    def test_a_row_equal_to_an_earlier_one(self):
        self.wrong(4, "land 10 1\nfree 9\n1 death 1 ann\n2 death 1 ann\n")
        self.wrong(5, "land 10 1\nfree 9\n1 death 1 ann\n2 death 2 ann\n3 death 1 ann\n4 death 2 ann\n")

    def test_ill_made_rows(self):
        for text in NO_ROWS:
            if "\n" not in text:
                self.wrong(3, f"land 10 1\nfree 3\n1 {text}\n")
                self.wrong(4, f"land 10 1\nfree 9\n1 death 9 ann\n2 {text}\n2 death 2 ann\n")

    def test_empty_rows(self):
        self.wrong(1, "\n")
        self.wrong(1, "\nland 10 1\nfree 3\n")
        self.wrong(2, "land 10 1\n\nfree 3\n")
        self.wrong(3, "land 10 1\nfree 3\n\n")
        self.wrong(3, "land 10 1\nfree 3\n\n1 death 1 ann\n")
        self.wrong(4, "land 10 1\nfree 3\n1 death 1 ann\n\n")
        self.wrong(4, "land 10 1\nfree 3\n1 death 1 ann\n\n\n")

    def test_the_first_of_several(self):
        page = ["land 10 1", "free 9", "1 death 1 ann", "2 death 2 ann", "3 death 3 ann"]
        for first in range(5):
            for later in range(first, 5):
                wrong = [row + " x" if at in (first, later) else row for at, row in enumerate(page)]
                self.wrong(first + 1, "".join(row + "\n" for row in wrong))
                self.wrong(first + 1, "\n".join(wrong))

    def test_each_sign_changed(self):
        # Whatever is read is written back as just that page.
        page = shown_page(self.roll())
        for at in range(len(page) + 1):
            for sign in " -019z\n":
                for other in (page[:at] + sign + page[at:], page[:at] + sign + page[at + 1:], page[:at] + page[at + 1:]):
                    try:
                        roll = read_page(other)
                    except NoText as refusal:
                        self.assertLessEqual(other[:at].count("\n"), refusal.at)
                    else:
                        self.assertEqual(shown_page(roll), other)


if __name__ == "__main__":
    unittest.main()
