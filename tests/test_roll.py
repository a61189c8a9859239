import unittest

from manrent.court import Court
from manrent.errors import LandError, NoEntry, NoForm, NoLand, NothingThere, Twice
from manrent.roll import Roll
from oracle import Dice, lively_rows, picture
from refusing import Refusing

HILL = ("grant", 5, "", "hill", "ann", 30, 2)
DALE = ("part", 7, "hill", "dale", "bob", 10)
HEIR = ("heir", 1, "ann", "bob")
DEATH = ("death", 9, "ann")
OTHER = ("convey", 8, "hill", "cat")
ILL_MADE = [("feu", 1, "ann"), ("death", 1), ("death", 1, ""), ("death", 10000, "ann"), ("heir", 1, "ann", "ann"),
            ("grant", 5, "", "hill", "ann", 0, 2), ("death", 1, "ann", "bob"), ("",)]


def told(roll):
    """All that a roll tells, but for what can be taken back and done again."""
    return (roll.acres(), roll.bears(), roll.free(), roll.rows())


def all_told(roll):
    """All that a roll tells, and that it tells on the way back and again; the roll stays."""
    line, other = [told(roll)], roll.twin()
    for step in ("back", "again"):
        try:
            while True:
                getattr(other, step)()
                line.append((step, told(other)))
        except NothingThere:
            pass
    return line


class Rolls(Refusing):
    def unchanged(self, kind, roll, deed, *things):
        """The deed is refused, and nothing is changed by it."""
        before = all_told(roll)
        self.refused(kind, getattr(roll, deed), *things)
        self.assertEqual(all_told(roll), before)


class Making(Rolls):
    def test_bounds(self):
        for acres in (0, -1, 10000, 123456):
            self.refused(NoLand, Roll, acres, 1)
        for bears in (-1, 100, 123456):
            self.refused(NoLand, Roll, 10, bears)
        self.refused(NoLand, Roll, 0, 100)
        for acres, bears in ((1, 0), (9999, 99), (1, 99), (9999, 0), (50, 5)):
            self.assertEqual(told(Roll(acres, bears)), (acres, bears, 1, []))

    def test_two_rolls_are_their_own(self):
        one, other = Roll(10, 1), Roll(20, 2)
        one.enter(HEIR)
        self.assertEqual((told(one), told(other)), ((10, 1, 2, [(1, HEIR)]), (20, 2, 1, [])))
        self.refused(NothingThere, other.back)


class Entering(Rolls):
    def test_alone(self):
        roll = Roll(100, 2)
        self.assertEqual([roll.enter(row) for row in (HILL, DALE, HEIR)], [1, 2, 3])
        self.assertEqual(told(roll), (100, 2, 4, [(1, HILL), (2, DALE), (3, HEIR)]))

    def test_as_a_list(self):
        roll = Roll(100, 2)
        self.assertEqual(roll.enter_all([DEATH, HILL]), [1, 2])
        self.assertEqual(roll.enter_all([HEIR]), [3])
        self.assertEqual(roll.enter(DALE), 4)
        self.assertEqual(told(roll), (100, 2, 5, [(1, DEATH), (2, HILL), (3, HEIR), (4, DALE)]))

    def test_an_empty_list(self):
        roll = Roll(100, 2)
        self.assertEqual(roll.enter_all([]), [])
        self.assertEqual(told(roll), (100, 2, 1, []))
        roll.enter(HILL)
        self.assertEqual(roll.enter_all([]), [])
        self.assertEqual(told(roll), (100, 2, 2, [(1, HILL)]))

    def test_void_charters_are_not_refused(self):
        roll = Roll(5, 2)
        rows = [HILL, DALE, ("surrender", 1, "glen"), ("liege", 1, "ann", "bob"), DEATH, ("death", 10, "ann")]
        self.assertEqual(roll.enter_all(rows), [1, 2, 3, 4, 5, 6])
        self.assertEqual([roll.charter(number) for number in range(1, 7)],
                         ["acres", "nowhere", "nowhere", "nobond", "stands", "dead"])

    def test_ill_made_ones(self):
        roll = Roll(100, 2)
        roll.enter(HILL)
        for row in ILL_MADE:
            self.unchanged(NoForm, roll, "enter", row)
            for rows in ([row], [DALE, row], [row, DALE], [DALE, row, HEIR], [row, row]):
                self.unchanged(NoForm, roll, "enter_all", rows)

    def test_rows_that_stand_already(self):
        roll = Roll(100, 2)
        roll.enter_all([HILL, DALE])
        for row in (HILL, DALE):
            self.unchanged(Twice, roll, "enter", row)
            for rows in ([row], [HEIR, row], [row, HEIR], [HEIR, row, DEATH]):
                self.unchanged(Twice, roll, "enter_all", rows)
        for rows in ([HEIR, HEIR], [HEIR, DEATH, HEIR], [DEATH, HEIR, HEIR]):
            self.unchanged(Twice, roll, "enter_all", rows)

    def test_the_ill_made_one_goes_first(self):
        roll = Roll(100, 2)
        roll.enter(HILL)
        for row in ILL_MADE:
            for rows in ([HILL, row], [row, HILL], [HEIR, HEIR, row], [HILL, HEIR, row]):
                self.unchanged(NoForm, roll, "enter_all", rows)

    def test_done_when_it_has_become_good(self):
        roll = Roll(100, 2)
        roll.enter(HILL)
        self.unchanged(Twice, roll, "enter", HILL)
        roll.strike(1)
        self.assertEqual(roll.enter(HILL), 2)
        self.unchanged(Twice, roll, "enter_all", [HEIR, HILL])
        roll.correct(2, DALE)
        self.assertEqual(roll.enter_all([HEIR, HILL]), [3, 4])

    def test_what_was_handed_in_may_be_changed(self):
        roll = Roll(100, 2)
        rows = [HILL, DALE]
        numbers = roll.enter_all(rows)
        self.assertEqual(rows, [HILL, DALE])
        rows.append(HEIR)
        rows[0] = DEATH
        numbers.clear()
        self.assertEqual(told(roll), (100, 2, 3, [(1, HILL), (2, DALE)]))
        roll.back()
        roll.again()
        self.assertEqual(told(roll), (100, 2, 3, [(1, HILL), (2, DALE)]))

    def test_told_lists_may_be_changed(self):
        roll = Roll(100, 2)
        roll.enter_all([HILL, DALE])
        first = roll.rows()
        self.assertIs(type(first), list)
        self.assertEqual({type(pair) for pair in first}, {tuple})
        first.clear()
        roll.rows().append((9, HEIR))
        self.assertEqual(roll.rows(), [(1, HILL), (2, DALE)])


class StrikingAndCorrecting(Rolls):
    def setUp(self):
        self.roll = Roll(100, 2)
        self.roll.enter_all([HILL, DALE, HEIR])

    def test_strike(self):
        self.assertEqual(self.roll.strike(2), DALE)
        self.assertEqual(told(self.roll), (100, 2, 4, [(1, HILL), (3, HEIR)]))
        self.assertEqual(self.roll.strike(3), HEIR)
        self.assertEqual(told(self.roll), (100, 2, 4, [(1, HILL)]))
        self.assertEqual(self.roll.strike(1), HILL)
        self.assertEqual(told(self.roll), (100, 2, 4, []))

    def test_struck_numbers_are_not_given_anew(self):
        self.roll.strike(3)
        self.roll.strike(1)
        self.assertEqual(self.roll.enter(HEIR), 4)
        self.assertEqual(self.roll.enter_all([HILL, DEATH]), [5, 6])
        self.assertEqual(self.roll.rows(), [(2, DALE), (4, HEIR), (5, HILL), (6, DEATH)])

    def test_numbers_that_are_not_there(self):
        self.roll.strike(2)
        for number in (0, -1, 2, 4, 5, 999999, 123456789):
            self.unchanged(NoEntry, self.roll, "strike", number)
            self.unchanged(NoEntry, self.roll, "correct", number, DEATH)
            self.unchanged(NoEntry, self.roll, "charter", number)
        self.refused(NoEntry, Roll(1, 1).strike, 1)

    def test_correct(self):
        self.assertEqual(self.roll.correct(2, OTHER), DALE)
        self.assertEqual(told(self.roll), (100, 2, 4, [(1, HILL), (2, OTHER), (3, HEIR)]))
        self.assertEqual(self.roll.correct(1, DALE), HILL)
        self.assertEqual(told(self.roll), (100, 2, 4, [(1, DALE), (2, OTHER), (3, HEIR)]))
        self.assertEqual(self.roll.strike(1), DALE)

    def test_to_the_very_row(self):
        before = told(self.roll)
        for number, row in ((1, HILL), (2, DALE), (3, HEIR)):
            self.assertEqual(self.roll.correct(number, row), row)
            self.assertEqual(told(self.roll), before)
        for many in range(3):
            self.roll.back()
            self.assertEqual(told(self.roll), before)
        self.roll.back()
        self.assertEqual(told(self.roll), (100, 2, 1, []))

    def test_to_a_row_that_stands_elsewhere(self):
        self.unchanged(Twice, self.roll, "correct", 1, DALE)
        self.unchanged(Twice, self.roll, "correct", 3, HILL)
        self.roll.strike(2)
        self.assertEqual(self.roll.correct(1, DALE), HILL)

    def test_to_an_ill_made_one(self):
        for row in ILL_MADE:
            for number in (1, 2, 3, 4, 0):
                self.unchanged(NoForm, self.roll, "correct", number, row)

    def test_where_several_are_due(self):
        # No row has the number 9, and the row stands elsewhere.
        self.unchanged(NoEntry, self.roll, "correct", 9, HILL)
        self.unchanged(NoForm, self.roll, "correct", 9, ILL_MADE[0])


class BackAndAgain(Rolls):
    def test_nothing_there(self):
        roll = Roll(100, 2)
        self.unchanged(NothingThere, roll, "back")
        self.unchanged(NothingThere, roll, "again")
        roll.enter(HILL)
        self.unchanged(NothingThere, roll, "again")
        roll.back()
        self.unchanged(NothingThere, roll, "back")
        self.assertIsNone(roll.again())
        self.unchanged(NothingThere, roll, "again")
        self.assertIsNone(roll.back())

    def test_over_every_kind_of_deed(self):
        roll = Roll(100, 2)
        deeds = [("enter", HILL), ("enter_all", [DALE, HEIR]), ("strike", 1), ("correct", 2, OTHER), ("enter_all", []),
                 ("correct", 3, HEIR), ("enter", HILL), ("correct", 4, DALE), ("strike", 4), ("strike", 3), ("strike", 2),
                 ("enter_all", [DEATH, HILL, DALE])]
        line = [told(roll)]
        for word, *things in deeds:
            getattr(roll, word)(*things)
            line.append(told(roll))
        for turn in range(3):
            for expected in line[-2::-1]:
                self.assertIsNone(roll.back())
                self.assertEqual(told(roll), expected)
            self.unchanged(NothingThere, roll, "back")
            for expected in line[1:]:
                self.assertIsNone(roll.again())
                self.assertEqual(told(roll), expected)
            self.unchanged(NothingThere, roll, "again")

    def test_the_free_number_too(self):
        roll = Roll(100, 2)
        roll.enter_all([HILL, DALE])
        roll.back()
        self.assertEqual(roll.free(), 1)
        self.assertEqual(roll.enter(HEIR), 1)
        roll.back()
        self.assertEqual(roll.free(), 1)
        roll.again()
        self.assertEqual((roll.free(), roll.rows()), (2, [(1, HEIR)]))

    def test_an_empty_list_is_a_deed(self):
        roll = Roll(100, 2)
        roll.enter_all([])
        self.assertIsNone(roll.back())
        self.unchanged(NothingThere, roll, "back")
        roll.enter(HILL)
        roll.back()
        roll.enter_all([])
        self.unchanged(NothingThere, roll, "again")

    def test_a_new_deed_forgets_what_was_taken_back(self):
        for word, *things in (("enter", DEATH), ("enter_all", [DEATH]), ("enter_all", []), ("strike", 1), ("correct", 1, DEATH),
                              ("correct", 1, HILL)):
            roll = Roll(100, 2)
            roll.enter(HILL)
            roll.enter(DALE)
            roll.back()
            getattr(roll, word)(*things)
            self.unchanged(NothingThere, roll, "again")
            roll.back()
            self.assertEqual(told(roll), (100, 2, 2, [(1, HILL)]))

    def test_a_refused_one_does_not(self):
        for kind, word, *things in ((Twice, "enter", HILL), (NoForm, "enter", ILL_MADE[0]), (Twice, "enter_all", [DEATH, DEATH]),
                                    (NoForm, "enter_all", [DEATH, ILL_MADE[1]]), (NoEntry, "strike", 2), (NoEntry, "correct", 2, DEATH),
                                    (NoForm, "correct", 1, ILL_MADE[0]), (NoEntry, "charter", 2)):
            roll = Roll(100, 2)
            roll.enter(HILL)
            roll.enter(DALE)
            roll.back()
            self.unchanged(kind, roll, word, *things)
            roll.again()
            self.assertEqual(told(roll), (100, 2, 3, [(1, HILL), (2, DALE)]))

    def test_questions_forget_nothing(self):
        roll = Roll(100, 2)
        roll.enter_all([HILL, DALE])
        roll.enter(HEIR)
        roll.back()
        before = all_told(roll)
        roll.court(), roll.charter(1), roll.rows(), roll.free(), roll.twin().enter(DEATH)
        self.assertEqual(all_told(roll), before)

    def test_hundreds_of_deeds_there_and_back(self):
        roll, dice = Roll(100, 2), Dice(4)
        line = [told(roll)]
        while len(line) < 400:
            numbers = [number for number, row in roll.rows()]
            day = dice.below(10000)
            try:
                kind = dice.below(4)
                if kind == 0 or not numbers:
                    roll.enter(("death", day, "ann"))
                elif kind == 1:
                    roll.enter_all([("surrender", day, name) for name in "abc"[dice.below(4):]])
                elif kind == 2:
                    roll.strike(dice.of(numbers))
                else:
                    roll.correct(dice.of(numbers), ("convey", day, "hill", "bob"))
                line.append(told(roll))
            except LandError:
                self.assertEqual(told(roll), line[-1])
        for expected in line[-2::-1]:
            roll.back()
            self.assertEqual(told(roll), expected)
        for expected in line[1:]:
            roll.again()
            self.assertEqual(told(roll), expected)


class Twins(Rolls):
    def made(self):
        """A roll with two deeds to take back and two to do again."""
        roll = Roll(100, 2)
        roll.enter(HILL)
        roll.enter_all([DALE, HEIR])
        roll.strike(2)
        roll.correct(1, OTHER)
        roll.back()
        roll.back()
        return roll

    def test_deeds_are_in_the_twin_too(self):
        roll = self.made()
        self.assertEqual(all_told(roll.twin()), all_told(roll))
        self.assertEqual(len(all_told(roll)), 1 + 2 + 4)
        self.assertEqual(all_told(roll.twin().twin()), all_told(roll))
        self.assertIsInstance(roll.twin(), Roll)

    def test_neither_changes_the_other(self):
        for word, *things in (("enter", DEATH), ("enter_all", [DEATH, OTHER]), ("enter_all", []), ("strike", 1), ("correct", 2, DEATH),
                              ("back",), ("again",)):
            for twins in (lambda roll: (roll, roll.twin()), lambda roll: (roll.twin(), roll),
                          lambda roll: (roll.twin().twin(), roll), lambda roll: (roll, roll.twin().twin())):
                changed, left = twins(self.made())
                before = all_told(left)
                getattr(changed, word)(*things)
                self.assertEqual(all_told(left), before)
                self.assertNotEqual(all_told(changed), before)
                getattr(left, word)(*things)
                self.assertEqual(all_told(left), all_told(changed))

    def test_by_turns(self):
        roll = self.made()
        twin = roll.twin()
        for step, line in (("back", [(100, 2, 2, [(1, HILL)]), (100, 2, 1, [])]),
                           ("again", [(100, 2, 2, [(1, HILL)]), (100, 2, 4, [(1, HILL), (2, DALE), (3, HEIR)]),
                                      (100, 2, 4, [(1, HILL), (3, HEIR)]), (100, 2, 4, [(1, OTHER), (3, HEIR)])])):
            for expected in line:
                for one in (roll, twin):
                    getattr(one, step)()
                    self.assertEqual(told(one), expected)
            for one in (twin, roll):
                self.unchanged(NothingThere, one, step)

    def test_the_twin_of_a_new_roll(self):
        roll = Roll(7, 0)
        self.assertEqual(all_told(roll.twin()), [(7, 0, 1, [])])


class Courts(Rolls):
    def test_a_court_of_now(self):
        roll = Roll(100, 2)
        self.assertIsInstance(roll.court(), Court)
        self.assertEqual((roll.court().acres(), roll.court().bears(), roll.court().verdicts()), (100, 2, []))
        roll.enter_all([DALE, HILL])
        self.assertEqual(roll.court().verdicts(), [(HILL, "stands"), (DALE, "stands")])

    def test_one_made_ahead_tells_as_before(self):
        roll = Roll(100, 2)
        roll.enter_all([DALE, HILL, HEIR])
        court = roll.court()
        first = (court.verdicts(), court.spells(), picture(court.land(8)))
        for word, *things in (("enter", DEATH), ("strike", 1), ("correct", 2, OTHER), ("back",), ("back",), ("back",), ("back",),
                              ("again",)):
            getattr(roll, word)(*things)
            self.assertEqual((court.verdicts(), court.spells(), picture(court.land(8))), first)
            self.assertEqual([row for row, word in roll.court().verdicts()],
                             [row for row, word in Court(100, 2, [row for number, row in roll.rows()]).verdicts()])

    def test_a_told_court_changes_nothing(self):
        roll = Roll(100, 2)
        roll.enter_all([DALE, HILL])
        court = roll.court()
        court.verdicts().clear()
        court.land(8).fall_back("hill")
        self.assertEqual(roll.court().land(8).estates(), ["dale", "hill"])
        self.assertEqual(roll.charter(1), "stands")


class Words(Rolls):
    def test_behind_each_deed(self):
        roll = Roll(100, 2)
        roll.enter(DALE)
        self.assertEqual(roll.charter(1), "nowhere")
        roll.enter(HILL)
        self.assertEqual((roll.charter(1), roll.charter(2)), ("stands", "stands"))
        roll.correct(2, ("grant", 5, "", "hill", "ann", 9, 2))
        self.assertEqual((roll.charter(1), roll.charter(2)), ("acres", "stands"))
        roll.enter(("death", 6, "bob"))
        self.assertEqual((roll.charter(1), roll.charter(2), roll.charter(3)), ("dead", "stands", "stands"))
        roll.strike(3)
        self.assertEqual(roll.charter(1), "acres")
        self.refused(NoEntry, roll.charter, 3)
        roll.back()
        self.assertEqual((roll.charter(1), roll.charter(3)), ("dead", "stands"))
        roll.back()
        roll.back()
        self.assertEqual(roll.charter(1), "stands")
        roll.back()
        self.assertEqual(roll.charter(1), "nowhere")
        self.refused(NoEntry, roll.charter, 2)
        roll.again()
        roll.again()
        self.assertEqual(roll.charter(1), "acres")
        self.refused(NoEntry, Roll(1, 1).charter, 1)

    def test_as_the_court_tells(self):
        rows = lively_rows(Dice(8), 60, ["ann", "bob", "cat"])
        roll = Roll(60, 1)
        roll.enter_all(rows)
        words = dict(Court(60, 1, rows).verdicts())
        self.assertGreater(len(set(words.values())), 2)
        for number, row in roll.rows():
            self.assertEqual(roll.charter(number), words[row])


if __name__ == "__main__":
    unittest.main()
