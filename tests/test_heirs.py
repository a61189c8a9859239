import itertools
import unittest

from manrent.heirs import Kin


def kin_of(heirs, dead):
    kin = Kin()
    for man, heir in heirs:
        kin.name_heir(man, heir)
    for man in dead:
        kin.die(man)
    return kin


class Death(unittest.TestCase):
    def test_nobody_is_dead(self):
        for man in ("ann", "bob", ""):
            self.assertIs(Kin().is_dead(man), False)

    def test_die(self):
        kin = Kin()
        self.assertIsNone(kin.die("ann"))
        self.assertIs(kin.is_dead("ann"), True)
        self.assertIs(kin.is_dead("bob"), False)

    def test_die_of_the_dead(self):
        kin = kin_of([("ann", "bob")], ["ann"])
        self.assertIsNone(kin.die("ann"))
        self.assertIs(kin.is_dead("ann"), True)
        self.assertEqual(kin.taker("ann"), "bob")

    def test_the_crown_is_never_dead(self):
        kin = Kin()
        self.assertIsNone(kin.die(""))
        self.assertIs(kin.is_dead(""), False)

    def test_kins_are_their_own(self):
        one, other = kin_of([("ann", "bob")], ["cat"]), Kin()
        self.assertIs(other.is_dead("cat"), False)
        self.assertIsNone(other.taker("ann"))
        self.assertEqual(one.taker("ann"), "bob")


class Takers(unittest.TestCase):
    def test_without_an_heir(self):
        kin = kin_of([], ["bob"])
        self.assertIsNone(kin.taker("ann"))
        self.assertIsNone(kin.taker("bob"))

    def test_of_the_living_and_of_the_dead(self):
        kin = Kin()
        self.assertIsNone(kin.name_heir("ann", "bob"))
        self.assertEqual(kin.taker("ann"), "bob")
        kin.die("ann")
        self.assertEqual(kin.taker("ann"), "bob")
        self.assertIsNone(kin.taker("bob"))

    def test_in_the_place_of_an_earlier_one(self):
        kin = kin_of([("ann", "bob"), ("ann", "cat")], [])
        self.assertEqual(kin.taker("ann"), "cat")
        kin.die("cat")
        self.assertIsNone(kin.taker("ann"))
        kin.name_heir("ann", "bob")
        self.assertEqual(kin.taker("ann"), "bob")

    def test_along_the_heirs(self):
        heirs = [("ann", "bob"), ("bob", "cat"), ("cat", "dan")]
        self.assertEqual(kin_of(heirs, []).taker("ann"), "bob")
        self.assertEqual(kin_of(heirs, ["bob"]).taker("ann"), "cat")
        self.assertEqual(kin_of(heirs, ["cat"]).taker("ann"), "bob")
        self.assertEqual(kin_of(heirs, ["bob", "cat"]).taker("ann"), "dan")
        self.assertIsNone(kin_of(heirs, ["bob", "cat", "dan"]).taker("ann"))

    def test_an_heir_may_be_dead_when_named(self):
        kin = kin_of([], ["bob"])
        self.assertIsNone(kin.name_heir("ann", "bob"))
        self.assertIsNone(kin.taker("ann"))
        kin.name_heir("bob", "cat")
        self.assertEqual(kin.taker("ann"), "cat")
        self.assertEqual(kin.taker("bob"), "cat")

    def test_the_man_himself_is_come_to(self):
        kin = kin_of([("ann", "bob"), ("bob", "ann")], ["bob"])
        self.assertIsNone(kin.taker("ann"))
        self.assertEqual(kin.taker("bob"), "ann")
        kin.die("ann")
        self.assertIsNone(kin.taker("ann"))
        self.assertIsNone(kin.taker("bob"))

    def test_one_for_the_second_time(self):
        heirs = [("ann", "bob"), ("bob", "cat"), ("cat", "bob")]
        self.assertIsNone(kin_of(heirs, ["bob", "cat"]).taker("ann"))
        self.assertIsNone(kin_of(heirs, ["ann", "bob", "cat"]).taker("ann"))
        self.assertEqual(kin_of(heirs, ["bob"]).taker("ann"), "cat")

    def test_the_crown(self):
        kin = kin_of([("ann", "bob")], ["ann"])
        self.assertIsNone(kin.taker(""))
        kin.name_heir("", "bob")
        self.assertIsNone(kin.taker(""))

    def test_long_lines(self):
        names = ["m" + "".join(signs) for signs in itertools.product("abcdefghij", repeat=3)]
        line = list(zip(names, names[1:]))
        self.assertEqual(kin_of(line, names[:-1]).taker(names[0]), names[-1])
        self.assertEqual(kin_of(line, names[:700]).taker(names[0]), names[700])
        self.assertIsNone(kin_of(line, names).taker(names[0]))
        for back_to in (0, 1, 500, 998):
            ring = line + [(names[-1], names[back_to])]
            self.assertIsNone(kin_of(ring, names).taker(names[0]))
            self.assertIsNone(kin_of(ring, names[1:]).taker(names[0]))

    def test_asking_changes_nothing(self):
        kin = kin_of([("ann", "bob"), ("bob", "cat"), ("cat", "ann")], ["bob"])
        for turn in range(3):
            self.assertEqual([kin.taker(man) for man in ("ann", "bob", "cat", "dan")], ["cat", "cat", "ann", None])


if __name__ == "__main__":
    unittest.main()
