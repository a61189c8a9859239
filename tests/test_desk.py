import unittest

from manrent.desk import Desk
from manrent.dues import keeps
from manrent.errors import LandError, NoEntry, NoEstate, NoLand, NoMan, NoQuarrel, NoText, NothingThere, Twice
from manrent.page import shown_page, shown_row
from manrent.quarrels import side
from manrent.roll import Roll
from oracle import Dice, lively_rows
from refusing import Refusing
from test_page import NO_ROWS

HILL = "grant 5 - hill ann 30 2"
MOOR = "grant 5 - moor bob 40 3"
DALE = "grant 6 hill dale bob 12 1"
FEN = "part 7 dale fen cat 5"


def state(desk):
    """What the roll tells, and what it tells on the way back and again."""
    line, roll = [shown_page(desk.roll)], desk.roll.twin()
    for step in ("back", "again"):
        try:
            while True:
                getattr(roll, step)()
                line.append(shown_page(roll))
        except NothingThere:
            pass
    return line


class Desks(Refusing):
    def setUp(self):
        self.desk = Desk(100, 2)

    def orders(self, *texts):
        return [self.desk.order(text) for text in texts]

    def refuses(self, kind, text):
        """The order is refused, and nothing is changed by it."""
        with self.subTest(text=text):
            before = state(self.desk)
            refusal = self.refused(kind, self.desk.order, text)
            if kind is NoText:
                self.assertEqual(refusal.at, 1)
            self.assertEqual(state(self.desk), before)


class Making(Desks):
    def test_land(self):
        for acres, bears in ((0, 1), (10000, 1), (-1, 1), (10, -1), (10, 100), (0, 100)):
            self.refused(NoLand, Desk, acres, bears)
        for acres, bears in ((1, 0), (9999, 99)):
            desk = Desk(acres, bears)
            self.assertIsInstance(desk.roll, Roll)
            self.assertEqual(shown_page(desk.roll), f"land {acres} {bears}\nfree 1\n")

    def test_the_roll_is_at_work(self):
        self.assertEqual(self.desk.roll.enter(("grant", 5, "", "hill", "ann", 30, 2)), 1)
        self.assertEqual(self.orders("charter 1", "enter " + DALE, "chain 6 dale", "strike 1"), ["stands", "2", "dale hill -", HILL])
        self.assertEqual(self.desk.roll.rows(), [(2, ("grant", 6, "hill", "dale", "bob", 12, 1))])
        self.desk.roll.back()
        self.assertEqual(self.orders("charter 2", "back", "back"), ["stands", "done", "done"])
        self.assertEqual(self.desk.roll.rows(), [])
        self.desk.roll.again()
        self.assertEqual(self.orders("charter 1"), ["stands"])

    def test_two_desks_are_apart(self):
        other = Desk(50, 1)
        self.assertEqual(self.orders("enter " + HILL), ["1"])
        self.refused(NoEntry, other.order, "charter 1")
        self.assertEqual(other.order("enter " + DALE), "1")
        self.assertEqual(self.orders("enter " + MOOR, "strike 1"), ["2", HILL])
        self.assertEqual(other.order("strike 1"), DALE)
        self.assertEqual(self.orders("back"), ["done"])
        self.assertEqual((shown_page(self.desk.roll), shown_page(other.roll)),
                         (f"land 100 2\nfree 3\n1 {HILL}\n2 {MOOR}\n", "land 50 1\nfree 2\n"))


class Deeds(Desks):
    def test_enter(self):
        self.assertEqual(self.orders("enter " + HILL, "enter " + MOOR, "enter liege 9 ann -", "enter heir 0 ann bob"), ["1", "2", "3", "4"])
        self.assertEqual(shown_page(self.desk.roll),
                         f"land 100 2\nfree 5\n1 {HILL}\n2 {MOOR}\n3 liege 9 ann -\n4 heir 0 ann bob\n")
        self.refuses(Twice, "enter " + HILL)

    def test_each_kind(self):
        texts = [HILL, FEN, "convey 8 hill cat", "liege 9 ann -", "surrender 10 hill", "death 11 ann", "heir 1 ann bob"]
        self.assertEqual(self.orders(*["enter " + text for text in texts]), list("1234567"))
        self.assertEqual(self.orders(*["strike " + number for number in "7654321"]), texts[::-1])

    def test_numbers_of_several_figures(self):
        self.desk.roll.enter_all([("death", day, "ann") for day in range(120)])
        self.assertEqual(self.orders("enter " + HILL, "strike 121", "strike 100"), ["121", HILL, "death 99 ann"])

    def test_strike(self):
        self.orders("enter " + HILL, "enter " + MOOR)
        self.assertEqual(self.orders("strike 1"), [HILL])
        for number in ("1", "0", "3", "999999"):
            self.refuses(NoEntry, "strike " + number)
        self.assertEqual(self.orders("enter " + HILL), ["3"])

    def test_correct(self):
        self.orders("enter " + HILL, "enter " + MOOR)
        self.assertEqual(self.orders("correct 1 " + DALE, "correct 1 " + HILL, "correct 1 " + HILL), [HILL, DALE, HILL])
        self.refuses(Twice, "correct 1 " + MOOR)
        for number in ("0", "3", "999999"):
            self.refuses(NoEntry, f"correct {number} {FEN}")
            self.refuses(NoEntry, f"correct {number} {HILL}")
        self.assertEqual(self.orders("back", "back", "back", "back", "again", "again"), ["done"] * 6)
        self.assertEqual(self.desk.roll.rows()[0], (1, ("grant", 6, "hill", "dale", "bob", 12, 1)))

    def test_back_and_again(self):
        self.refuses(NothingThere, "back")
        self.refuses(NothingThere, "again")
        self.orders("enter " + HILL)
        self.refuses(NothingThere, "again")
        self.assertEqual(self.orders("back"), ["done"])
        self.refuses(NothingThere, "back")
        self.assertEqual(self.orders("again"), ["done"])
        self.refuses(NothingThere, "again")
        self.orders("back", "enter " + MOOR)
        self.refuses(NothingThere, "again")
        self.assertEqual(self.orders("strike 1"), [MOOR])


class Questions(Desks):
    def setUp(self):
        self.desk = Desk(100, 2)
        self.orders("enter " + HILL, "enter " + MOOR, "enter " + DALE, "enter " + FEN)

    def test_charter(self):
        self.orders("enter death 8 ann", "enter convey 9 moor ann", "enter grant 9 dale moor cat 1 1",
                    "enter grant 9 dale lea cat 99 1", "enter liege 9 cat bob", "enter surrender 9 glen")
        self.assertEqual(self.orders(*[f"charter {number}" for number in range(1, 11)]),
                         ["stands"] * 5 + ["dead", "taken", "acres", "nobond", "nowhere"])
        self.orders("strike 4")
        for number in ("0", "4", "11", "999999"):
            self.refuses(NoEntry, "charter " + number)

    def test_chain(self):
        self.assertEqual(self.orders("chain 7 fen", "chain 7 dale", "chain 6 dale", "chain 5 hill", "chain 9999 moor", "chain 0 -", "chain 9999 -"),
                         ["fen hill -", "dale hill -", "dale hill -", "hill -", "moor -", "-", "-"])
        for text in ("chain 4 hill", "chain 6 fen", "chain 7 glen", "chain 0 ann", "chain 9999 bob"):
            self.refuses(NoEstate, text)

    def test_kept(self):
        self.assertEqual(self.orders(
            "kept ann 5 6", "kept ann 6 7", "kept bob 7 8", "kept cat 7 8", "kept - 0 1", "kept - 5 6", "kept eve 0 10000", "kept ann 0 5",
            "kept ann 7 7", "kept ann 10000 10000", "kept ann 0 0", "kept hill 0 10000", "kept cat 7 9", "kept cat 7 19"),
            ["58/1", "35/1", "1085/12", "115/12", "200/1", "65/1", "0/1", "0/1", "0/1", "0/1", "0/1", "0/1", "115/6", "115/1"])
        self.assertEqual(self.orders("kept - 0 10000"), [f"{200 * 5 + 65 * 9995}/1"])

    def test_kept_below_nought(self):
        self.orders("enter grant 8 - lea dan 7 30", "enter part 9 lea wold eve 2")
        self.assertEqual(self.orders("kept dan 8 9", "kept eve 9 10", "kept dan 9 10", "kept eve 9 16"), ["-16/1", "-32/7", "-80/7", "-32/1"])

    def test_side(self):
        self.assertEqual(self.orders("side 7 ann bob cat", "side 7 ann bob -", "side 7 ann bob ann", "side 7 ann bob bob",
                                     "side 7 - ann cat", "side 7 ann - cat", "side 7 cat bob ann", "side 7 cat bob -"),
                         ["one", "other", "one", "other", "other", "one", "other", "other"])
        self.desk = Desk(100, 1)
        self.orders("enter grant 0 - hill ann 10 1", "enter grant 0 - moor bob 10 1")
        self.assertEqual(self.orders("side 0 ann bob -", "side 9999 bob ann -", "side 0 - ann bob"), ["free", "free", "one"])

    def test_sides_that_are_refused(self):
        for text in ("side 7 eve ann bob", "side 7 ann eve bob", "side 7 ann bob eve", "side 6 ann bob cat", "side 4 ann bob -",
                     "side 7 eve eve ann", "side 7 ann ann eve", "side 7 hill ann bob"):
            self.refuses(NoMan, text)
        for text in ("side 7 ann ann bob", "side 7 - - ann", "side 7 cat cat cat"):
            self.refuses(NoQuarrel, text)

    def test_as_the_court_tells(self):
        men = ["ann", "bob", "cat", "dan"]
        for seed in range(4):
            rows = lively_rows(Dice(seed), 60, men)
            desk = Desk(60, 3)
            for number, row in enumerate(rows, start=1):
                self.assertEqual(desk.order("enter " + shown_row(row)), str(number))
            court = desk.roll.court()
            for number, row in enumerate(rows, start=1):
                self.assertEqual(desk.order(f"charter {number}"), court.verdict(row))
            for man in men:
                top, bottom = keeps(court, man, 2, 11)
                self.assertEqual(desk.order(f"kept {man} 2 11"), f"{top}/{bottom}")
            for day in (3, 12):
                for estate in court.land(day).estates():
                    self.assertEqual(desk.order(f"chain {day} {estate}").replace("-", "").split(" "), court.land(day).chain(estate))
                folk = court.land(day).folk()
                for one, other in zip(folk, folk[1:]):
                    for man in folk:
                        self.assertEqual(desk.order(f"side {day} {one or '-'} {other} {man or '-'}"), side(court, day, one, other, man))

    def test_questions_are_no_deeds(self):
        before = state(self.desk)
        self.orders("charter 1", "chain 7 fen", "kept ann 0 9", "side 7 ann bob cat")
        self.assertEqual(state(self.desk), before)


class NoOrders(Desks):
    def setUp(self):
        self.desk = Desk(100, 2)
        self.orders("enter " + HILL, "enter " + MOOR, "enter " + DALE, "back")

    def all_refused(self, *texts):
        for text in texts:
            self.refuses(NoText, text)

    def test_unknown_words(self):
        self.all_refused("", " ", "\n", "foo", "Enter " + HILL, "enters " + HILL, HILL, "grant", "1", "-", "undo", "redo", "keeps ann 0 1",
                         "land 100 2", "free 1", "BACK", "backs", "ente " + HILL, "row 1")

    def test_words_more_or_fewer(self):
        self.all_refused("enter", "strike", "strike 1 2", "correct", "correct 1", "correct " + HILL, "back 1", "back back", "again 1", "charter",
                         "charter 1 2", "chain", "chain 5", "chain hill", "chain 5 hill dale", "kept", "kept ann", "kept ann 0", "kept ann 0 1 2",
                         "kept 0 1", "side", "side 7", "side 7 ann", "side 7 ann bob", "side 7 ann bob cat dan", "side ann bob cat",
                         f"enter {HILL} {MOOR}", f"correct 1 {HILL} 1", f"enter 1 {HILL}")

    def test_blanks_more_or_fewer(self):
        for text in ("enter " + FEN, "strike 1", "correct 1 " + FEN, "back", "again", "charter 1", "chain 5 hill", "kept ann 0 1", "side 5 ann bob -"):
            self.all_refused(" " + text, text + " ", text + "\n", "\n" + text)
            at = text.find(" ")
            while at >= 0:
                self.all_refused(text[:at] + " " + text[at:], text[:at] + text[at + 1:], text[:at] + "\n" + text[at + 1:])
                at = text.find(" ", at + 1)

    def test_ill_written_rows(self):
        for text in NO_ROWS:
            self.all_refused("enter " + text, "correct 1 " + text, "correct 99 " + text)

    def test_ill_written_numbers(self):
        for number in ("01", "00", "-1", "+1", "1.0", "x", "-", "", "1000000", "0000001", "one", "1_0", "0x1"):
            self.all_refused("strike " + number, f"correct {number} {FEN}", "charter " + number, f"chain {number} hill", f"chain {number} -",
                             f"kept ann {number} 9", f"kept ann 0 {number}", f"side {number} ann bob -")

    def test_ill_written_names(self):
        for name in ("Ann", "abcdefghi", "a1", "--", "", "an-n", "1", "_", "ann\n"):
            self.all_refused(f"chain 5 {name}", f"kept {name} 0 1", f"side 5 {name} bob -", f"side 5 ann {name} -", f"side 5 ann bob {name}")

    def test_days_beyond(self):
        self.all_refused("chain 10000 hill", "chain 999999 hill", "side 10000 ann bob -", "kept ann 0 10001", "kept ann 10001 10001",
                         "kept ann 0 999999", "enter death 10000 ann", "correct 1 death 10000 ann")
        self.assertEqual(self.orders("chain 9999 hill", "side 9999 ann bob -", "kept eve 10000 10000"), ["hill -", "other", "0/1"])

    def test_a_start_above_the_end(self):
        self.all_refused("kept ann 1 0", "kept ann 10000 9999", "kept - 7 6", "kept eve 5 4")

    def test_ahead_of_all_else(self):
        self.all_refused("strike 099", "correct 99 death 1 Ann", "correct 1 liege 1 ann ann", "chain 10000 glen", "side 10000 eve eve eve",
                         "side 5 eve eve Eve", "side 5 ann ann Eve", "chain 5 Glen", "charter 099", "enter " + HILL + " ", "again x")
        desk = Desk(100, 2)
        for text in ("back ", "again ", "back x", "again 1"):
            self.assertEqual(self.refused(NoText, desk.order, text).at, 1)

    def test_refused_orders_do_not_forget(self):
        self.all_refused("foo", "enter foo", "strike x", "back x")
        self.refuses(NoEntry, "strike 99")
        self.refuses(Twice, "enter " + HILL)
        self.assertEqual(self.orders("again"), ["done"])
        self.assertEqual(self.orders("charter 3"), ["stands"])

    def test_each_sign_changed(self):
        # What isn't refused differs from no order; what is refused is refused by a class of the program's.
        for text in ("strike 1", "back", "again", "charter 1", "chain 5 hill", "kept ann 0 9", "side 5 ann bob -", "enter " + FEN, "correct 1 " + FEN):
            for at in range(len(text) + 1):
                for sign in " -09z\n":
                    for other in (text[:at] + sign + text[at:], text[:at] + sign + text[at + 1:], text[:at] + text[at + 1:]):
                        desk = Desk(100, 2)
                        desk.roll = self.desk.roll.twin()
                        try:
                            self.assertIs(type(desk.order(other)), str)
                        except LandError:
                            self.assertEqual(state(desk), state(self.desk))
                        else:
                            self.assertNotIn("  ", other)
                            self.assertNotIn("\n", other)
                            self.assertEqual(other.strip(), other)


if __name__ == "__main__":
    unittest.main()
