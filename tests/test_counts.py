import unittest

from manydeep.rounds import grown, places_after, places_by, ties_after, ties_by
from tests.anyvalues import BARE, LONE, NO_GARDENS, NO_NUMBERS, ROW, TIE, raised
from tests.assorted import CHOSEN, DIAMOND, GARDENS, LONG, thrown_gardens, webs_of

NO_MODULI = NO_NUMBERS + (0, 1)


def count(web, kinds):
    return tuple([tie[2] for tie in web[1]].count(kind) for kind in range(kinds))


class Counts(unittest.TestCase):
    """ties_after, places_after, ties_by, places_by [2.3]."""

    def test_example(self):
        self.assertEqual([ties_after((TIE, LONG), 4), places_after((TIE, LONG), 4), ties_by((TIE, LONG), 10 ** 30, 2)],
                         [(5, 3), 9, (1, 1)])

    def test_against_webs_that_are_grown(self):
        for garden in list(GARDENS) + thrown_gardens(200, 4):
            for n, web in enumerate(webs_of(garden, 60, 80, 6)):
                ties = count(web, len(garden[1]))
                self.assertEqual(ties_after(garden, n), ties)
                self.assertEqual(ties_after(n=n, garden=garden), ties)
                self.assertEqual(places_after(garden, n), web[0])
                self.assertEqual(places_after(n=n, garden=garden), web[0])
                for m in (2, 3, 12, 10 ** 6):
                    self.assertEqual(ties_by(garden, n, m), tuple(many % m for many in ties))
                    self.assertEqual(ties_by(m=m, n=n, garden=garden), tuple(many % m for many in ties))
                    self.assertEqual(places_by(garden, n, m), web[0] % m)
                    self.assertEqual(places_by(m=m, n=n, garden=garden), web[0] % m)

    def test_remainders_against_exact_numbers(self):
        for garden in list(GARDENS) + thrown_gardens(60, 5, 6, 9):
            for n in (0, 1, 2, 17, 31, 59, 60):
                for m in (2, 7, 11, 12, 999983, 10 ** 6):
                    self.assertEqual(ties_by(garden, n, m), tuple(many % m for many in ties_after(garden, n)))
                    self.assertEqual(places_by(garden, n, m), places_after(garden, n) % m)

    def test_sixty_rounds(self):
        self.assertEqual(ties_after(CHOSEN["fast"], 60), (4 ** 60,))
        self.assertEqual(places_after(CHOSEN["fast"], 60), 2 + 2 * (4 ** 60 - 1) // 3)
        self.assertEqual(ties_after(CHOSEN["slow"], 60), (1, 60))
        self.assertEqual(ties_after(CHOSEN["still"], 60), (1,))
        self.assertEqual(ties_after(CHOSEN["turning"], 59), (1, 1))
        self.assertEqual(ties_after(CHOSEN["dying"], 2), (4, 0))
        self.assertEqual(ties_after(CHOSEN["dead at once"], 60), (0,))
        self.assertEqual(ties_after(CHOSEN["three without ties"], 60), (0, 0, 0))
        self.assertEqual(places_after(CHOSEN["three without ties"], 60), 2)
        self.assertEqual(places_after(CHOSEN["slow with places"], 60), 62)
        self.assertEqual((ties_after(CHOSEN["lone"], 60), places_after(CHOSEN["lone"], 60)), ((0,), 1))
        self.assertEqual((ties_after(CHOSEN["bare"], 60), places_after(CHOSEN["bare"], 60)), ((0,), 5))

    def test_very_many_rounds(self):
        n = 10 ** 30
        for m in list(range(2, 13)) + [997, 999983, 10 ** 6]:
            self.assertEqual(ties_by(CHOSEN["fast"], n, m), (pow(4, n, m),))
            # Three times the places is 4 + 2 * 4 ** n: told by 3 * m, as m and 3 may have a divisor in common.
            self.assertEqual(places_by(CHOSEN["fast"], n, m), (4 + 2 * pow(4, n, 3 * m)) % (3 * m) // 3)
            self.assertEqual(ties_by(CHOSEN["slow"], n, m), (1, n % m))
            self.assertEqual(places_by(CHOSEN["slow with places"], n, m), (n + 2) % m)
            self.assertEqual(ties_by(CHOSEN["rows"], n, m), (3 * pow(2, n, m) % m,))
            self.assertEqual(ties_by(CHOSEN["turning"], n, m), (1, 1))
            self.assertEqual(ties_by(CHOSEN["dying"], n, m), (pow(2, n, m), 0))
            self.assertEqual(ties_by(CHOSEN["dead at once"], n, m), (0,))
            self.assertEqual(places_by(CHOSEN["dead at once"], n, m), 3 % m)

    def test_very_many_rounds_against_the_way_round(self):
        for garden in list(GARDENS) + thrown_gardens(20, 6):
            for m in (2, 3, 5):
                met, told = {}, []
                counts = ties_by(garden, 0, m) + (places_by(garden, 0, m),)
                while counts not in met:
                    met[counts] = len(told)
                    told.append(counts)
                    counts = ties_by(garden, len(told), m) + (places_by(garden, len(told), m),)
                # The counts by m tell those of the next round: so they go round from here on.
                back = met[counts]
                for n in (10 ** 6 + 1, 10 ** 30, 10 ** 30 - 7):
                    expected = told[back + (n - back) % (len(told) - back)]
                    self.assertEqual(ties_by(garden, n, m) + (places_by(garden, n, m),), expected)

    def test_book_with_kinds_that_never_come(self):
        garden = (TIE, (ROW, DIAMOND, DIAMOND))
        self.assertEqual(ties_after(garden, 3), (8, 0, 0))
        self.assertEqual(ties_by(garden, 3, 5), (3, 0, 0))

    def test_wrong_arguments(self):
        for thing in NO_GARDENS:
            for function in (ties_after, places_after):
                self.assertEqual(raised(function, thing, -1), ("BadGarden", {"thing": thing}))
            for function in (ties_by, places_by):
                self.assertEqual(raised(function, thing, -1, 0), ("BadGarden", {"thing": thing}))
        for thing in NO_NUMBERS:
            for function in (ties_after, places_after):
                self.assertEqual(raised(function, (TIE, LONG), thing), ("BadNumber", {"thing": thing}))
            for function in (ties_by, places_by):
                self.assertEqual(raised(function, (TIE, LONG), thing, 2), ("BadNumber", {"thing": thing}))
                self.assertEqual(raised(function, (TIE, LONG), thing, 1), ("BadNumber", {"thing": thing}))
        for thing in NO_MODULI:
            for function in (ties_by, places_by):
                self.assertEqual(raised(function, (TIE, LONG), 0, thing), ("BadModulus", {"thing": thing}))
                self.assertEqual(raised(function, m=thing, n=10 ** 30, garden=(LONE, (BARE,))),
                                 ("BadModulus", {"thing": thing}))

    def test_counts_need_no_web_that_could_be_grown(self):
        self.assertEqual(raised(grown, CHOSEN["fast"], 60), ("TooMany", {"most": 400}))
        self.assertEqual(ties_after(((401, ()), (DIAMOND,)), 1), (0,))
        self.assertEqual(places_after(((401, ()), (DIAMOND,)), 1), 401)


if __name__ == "__main__":
    unittest.main()
