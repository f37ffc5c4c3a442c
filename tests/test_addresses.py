import unittest

from manydeep.addresses import (address_of, degrees, is_address, is_row, place_of, row_ends, row_kind, rows_at)
from manydeep.rounds import grown
from tests.anyvalues import (BARE, FORKED, LONE, NEAR_WEBS, NO_GARDENS, NO_INTEGERS, NO_NUMBERS, ROW, TIE, TWICE, raised)
from tests.assorted import CHOSEN, DIAMOND, GARDENS, LONG, TAIL, thrown_gardens

GARDEN = (TIE, LONG)
ALL = (is_row, row_kind, row_ends, is_address, degrees, rows_at, address_of, place_of)

NO_TUPLES = (None, True, False, 0, 1, "", "0", [], {}, [0], [0, 0], {0: 0}, "00", 10 ** 99)
NO_ROWS = NO_TUPLES + (
    (), (1,), (-1,), (False,), (True,), ("0",), (None,), ([],), ({},), ((),), ((0,),), (10 ** 99,), (-(10 ** 99),),
    (0, 2), (0, -1), (0, True), (0, False), (0, None), (0, "1"), (0, (1,)), (0, [1]), (False, 0), (0, 1, 1), (0, 1, 0, 2),
    (0, 0, 2), (0, 1, False), (0,) * 60 + (2,), (0,) * 59 + (-1,), (0, 1, 1) + (0,) * 57, ((0, 0),), (0, 1, -1),
)
NO_ADDRESSES = NO_TUPLES + (
    (), ((),), (0,), ((), 2), ((), -1), ((), True), ((), False), ((), None), ((), "0"), ((), ()), ([], 0), ((), [0]), ((), 10 ** 99),
    (0, 0), (None, 0), ("", 0), ({}, 0), ((), 0, 0), [(), 0], ((0,), 0), ((0,), 1), ((0,), 3), ((0,), -1), ((0,), True),
    ((0,), None), ((0,), (2,)), ((0,), "2"), ((1,), 2), ((False,), 2), ([0], 2), ((0, 1), 2), ((0, 2), 2), ((0, 0), 3),
    ((0, 1, 1), 2), ((0,), 2, 0), [(0,), 2], (0, 2), ((0,),), (((0,),), 2), ((0, False), 2), ((None,), 2), (((),), 0),
    ((0,) * 60, 3), ((0,) * 59 + (1,), 2),
)


class Plainly:
    """The webs of a garden after 0 to n rounds, grown by a way of their own, with addresses in the place of places."""

    def __init__(self, garden, n):
        start, book = garden
        self.places = [((), place) for place in range(start[0])]
        self.ties = [((number,), kind, ((), tail), ((), head)) for number, (tail, head, kind) in enumerate(start[1])]
        self.sort()
        for _ in range(n):
            ties = []
            for row, kind, tail, head in self.ties:
                names = {0: tail, 1: head}
                for place in range(2, book[kind][0]):
                    names[place] = (row, place)
                    self.places.append((row, place))
                for number, (a, b, c) in enumerate(book[kind][1]):
                    ties.append((row + (number,), c, names[a], names[b]))
            self.ties = ties
            self.sort()

    def sort(self):
        numbers = {address: place for place, address in enumerate(self.places)}
        self.ties.sort(key=lambda tie: (numbers[tie[2]], numbers[tie[3]], tie[1], tie[0]))
        self.web = (len(self.places), tuple((numbers[tail], numbers[head], kind) for row, kind, tail, head in self.ties))

    def degrees(self, address, kinds):
        tails = [kind for row, kind, tail, head in self.ties if tail == address]
        heads = [kind for row, kind, tail, head in self.ties if head == address]
        return tuple(tuple(found.count(kind) for kind in range(kinds)) for found in (tails, heads))

    def rows_at(self, address):
        return tuple(sorted(row for row, kind, tail, head in self.ties if address in (tail, head)))


def small_enough(garden):
    """The plainly grown webs after 0, 1, .. rounds, as long as they are small."""
    found = []
    for n in range(5):
        found.append(Plainly(garden, n))
        if len(found[-1].ties) > 30 or len(found[-1].places) > 60:
            break
    return found


class Examples(unittest.TestCase):
    def test_examples(self):
        self.assertEqual(
            [is_row((TIE, LONG), (0, 1, 0)), is_row((TIE, LONG), (0, 2)), row_kind((TIE, LONG), (0, 1)),
             row_ends((TIE, LONG), (0, 1)), degrees((TIE, LONG), ((0,), 2), 1), degrees((TIE, LONG), ((0,), 2), 2)],
            [True, False, 1, (((0,), 2), ((), 1)), ((0, 1), (1, 0)), ((1, 0), (0, 1))])
        self.assertEqual(
            [rows_at((TIE, LONG), ((0,), 2), 2), address_of((TIE, LONG), 2, 3), place_of((TIE, LONG), 2, ((0,), 2)),
             is_address((TIE, LONG), ((0, 1), 2))],
            [((0, 0, 1), (0, 1, 0)), ((0, 0), 2), 2, False])


class AgainstPlainWebs(unittest.TestCase):
    """All of [3.1, 3.2, 3.3] for webs that are grown with addresses in the place of places."""

    def setUp(self):
        self.gardens = list(GARDENS) + thrown_gardens(120, 7)

    def test_rows(self):
        for garden in self.gardens:
            for web in small_enough(garden):
                for row, kind, tail, head in web.ties:
                    self.assertIs(is_row(garden, row), True)
                    self.assertIs(is_row(thing=row, garden=garden), True)
                    self.assertEqual(row_kind(garden, row), kind)
                    self.assertEqual(row_kind(row=row, garden=garden), kind)
                    self.assertEqual(row_ends(garden, row), (tail, head))
                    self.assertEqual(row_ends(row=row, garden=garden), (tail, head))

    def test_no_other_rows(self):
        for garden in self.gardens:
            for n, web in enumerate(small_enough(garden)[:3]):
                rows = {tie[0] for tie in web.ties}
                most = max([len(growth[1]) for growth in garden[1] + garden[:1]])
                for row in every_row(n + 1, min(most + 1, 6)):
                    self.assertIs(is_row(garden, row), row in rows)

    def test_addresses(self):
        for garden in self.gardens:
            for web in small_enough(garden):
                for address in web.places:
                    self.assertIs(is_address(garden, address), True)
                    self.assertIs(is_address(thing=address, garden=garden), True)

    def test_no_other_addresses(self):
        for garden in self.gardens:
            places = small_enough(garden)[-1].places
            rounds = len(small_enough(garden)) - 1
            for row in [()] + list(every_row(1, 4)) + list(every_row(2, 4)):
                if len(row) <= rounds:
                    for place in range(8):
                        self.assertIs(is_address(garden, (row, place)), (row, place) in places)

    def test_degrees_and_rows_at(self):
        for garden in self.gardens:
            kinds = len(garden[1])
            for n, web in enumerate(small_enough(garden)):
                for address in web.places:
                    self.assertEqual(degrees(garden, address, n), web.degrees(address, kinds))
                    self.assertEqual(degrees(n=n, address=address, garden=garden), web.degrees(address, kinds))
                    self.assertEqual(rows_at(garden, address, n), web.rows_at(address))
                    self.assertEqual(rows_at(n=n, address=address, garden=garden), web.rows_at(address))

    def test_address_of_and_place_of(self):
        for garden in self.gardens:
            for n, web in enumerate(small_enough(garden)):
                self.assertEqual(web.web, grown(garden, n))
                for place, address in enumerate(web.places):
                    self.assertEqual(address_of(garden, n, place), address)
                    self.assertEqual(address_of(place=place, n=n, garden=garden), address)
                    self.assertEqual(place_of(garden, n, address), place)
                    self.assertEqual(place_of(address=address, n=n, garden=garden), place)


def every_row(length, end):
    rows = [()]
    for _ in range(length):
        rows = [row + (number,) for row in rows for number in range(end)]
    return rows


class Edges(unittest.TestCase):
    def test_the_tie_with_the_lesser_row_has_the_lesser_number(self):
        # After a round three ties (0, 1, 0) come of the second, the first and the third tie of the start.
        garden = ((2, ((0, 1, 0), (0, 1, 1), (1, 0, 2))), (
            (3, ((0, 1, 1), (0, 2, 0))), (2, ((0, 1, 1), (0, 1, 1))), (2, ((1, 0, 1),))))
        self.assertEqual(grown(garden, 1)[1], ((0, 1, 1),) * 4 + ((0, 2, 0),))
        self.assertEqual([tie[0] for tie in Plainly(garden, 1).ties], [(0, 0), (1, 0), (1, 1), (2, 0), (0, 1)])
        bearing = (garden[0], (garden[1][0], (3, ((0, 1, 1), (0, 1, 1))), garden[1][2]))
        self.assertEqual([address_of(bearing, 2, place) for place in range(9)], [
            ((), 0), ((), 1), ((0,), 2), ((1,), 2), ((0, 0), 2), ((1, 0), 2), ((1, 1), 2), ((2, 0), 2), ((0, 1), 2)])

    def test_doubled_ties(self):
        garden = CHOSEN["doubled ties"]
        self.assertEqual([address_of(garden, 1, place) for place in range(4)], [((), 0), ((), 1), ((0,), 2), ((1,), 2)])
        self.assertEqual(rows_at(garden, ((1,), 2), 1), ((1, 0), (1, 1), (1, 2)))
        self.assertEqual(degrees(garden, ((), 0), 60), ((2 ** 61,), (0,)))

    def test_rows_of_one_item_and_of_sixty(self):
        self.assertIs(is_row(GARDEN, (0,)), True)
        self.assertEqual(row_kind(GARDEN, (0,)), 0)
        self.assertEqual(row_ends(GARDEN, (0,)), (((), 0), ((), 1)))
        # Ties of the kind 0 lie at the tail of those that they come of.
        row = (0,) * 60
        self.assertIs(is_row(GARDEN, row), True)
        self.assertEqual(row_kind(GARDEN, row), 0)
        self.assertEqual(row_ends(GARDEN, row), (((), 0), ((0,) * 59, 2)))
        self.assertIs(is_address(GARDEN, (row, 2)), True)
        turning = (0, 1) * 30
        self.assertEqual(row_kind(GARDEN, turning), 1)
        self.assertEqual(row_ends(GARDEN, turning), (((0, 1) * 29 + (0,), 2), ((), 1)))
        self.assertIs(is_address(GARDEN, (turning, 2)), False)
        self.assertIs(is_row(GARDEN, turning + (1,)), False)
        self.assertIs(is_row(GARDEN, row + (1,) + turning), True)

    def test_sixty_rounds(self):
        tailed = CHOSEN["tailed"]
        self.assertEqual(degrees(tailed, ((), 0), 60), ((2 ** 60,), (0,)))
        self.assertEqual(degrees(tailed, ((0,) * 60, 2), 60), ((0,), (1,)))
        self.assertEqual(rows_at(tailed, ((), 1), 60), ((0,) * 61,))
        self.assertEqual(degrees(CHOSEN["fast"], ((0,) * 60, 3), 60), ((1,), (1,)))
        self.assertEqual(rows_at(CHOSEN["fast"], ((0,) * 60, 3), 60), ((0,) * 60 + (1,), (0,) * 60 + (3,)))
        self.assertEqual(degrees(CHOSEN["slow"], ((), 1), 60), ((0, 0), (1, 60)))
        self.assertEqual(len(rows_at(CHOSEN["slow"], ((), 1), 60)), 61)
        self.assertEqual(rows_at(CHOSEN["slow"], ((), 1), 60)[-1], (0, 1) + (0,) * 59)
        slow = CHOSEN["slow with places"]
        self.assertEqual(address_of(slow, 60, 61), ((0,) * 60, 2))
        self.assertEqual(place_of(slow, 60, ((0,) * 60, 2)), 61)
        self.assertEqual(place_of(slow, 60, ((), 1)), 1)

    def test_after_the_ties_have_died_out(self):
        dead = CHOSEN["dead at once"]
        self.assertEqual(degrees(dead, ((), 0), 0), ((2,), (0,)))
        self.assertEqual(degrees(dead, ((), 0), 1), ((0,), (0,)))
        self.assertEqual(rows_at(dead, ((), 0), 60), ())
        self.assertIs(is_row(dead, (2,)), True)
        self.assertIs(is_row(dead, (2, 0)), False)
        self.assertEqual(address_of(dead, 60, 2), ((), 2))
        bare = (TIE, ((4, ()),))
        self.assertEqual(degrees(bare, ((0,), 3), 1), ((0,), (0,)))
        self.assertEqual(rows_at(bare, ((0,), 3), 60), ())
        self.assertEqual(place_of(bare, 60, ((0,), 3)), 3)

    def test_lone_place(self):
        lone = CHOSEN["lone"]
        self.assertIs(is_row(lone, (0,)), False)
        self.assertEqual((degrees(lone, ((), 0), 5), rows_at(lone, ((), 0), 5)), (((0,), (0,)), ()))
        self.assertEqual((address_of(lone, 60, 0), place_of(lone, 60, ((), 0))), (((), 0), 0))

    def test_births(self):
        # A place can be asked for from its birth on.
        self.assertEqual(degrees(GARDEN, ((0, 0), 2), 2), ((0, 1), (1, 0)))
        self.assertEqual(raised(degrees, GARDEN, ((0, 0), 2), 1), ("BadNumber", {"thing": 1}))
        self.assertEqual(raised(degrees, GARDEN, ((0, 0), 2), 0), ("BadNumber", {"thing": 0}))
        self.assertEqual(raised(rows_at, GARDEN, ((0, 0), 2), 1), ("BadNumber", {"thing": 1}))
        self.assertEqual(raised(rows_at, GARDEN, ((0,), 2), 0), ("BadNumber", {"thing": 0}))
        for n in (0, 1):
            self.assertEqual(raised(place_of, GARDEN, n, ((0, 0), 2)), ("BadAddress", {"thing": ((0, 0), 2)}))
        self.assertEqual(place_of(GARDEN, 2, ((0, 0), 2)), 3)


class Errors(unittest.TestCase):
    def test_gardens_first(self):
        for thing in NO_GARDENS:
            for function in (is_row, row_kind, row_ends, is_address):
                self.assertEqual(raised(function, thing, []), ("BadGarden", {"thing": thing}))
                self.assertEqual(raised(function, thing, (0,)), ("BadGarden", {"thing": thing}))
            for function in (degrees, rows_at, address_of, place_of):
                self.assertEqual(raised(function, thing, None, None), ("BadGarden", {"thing": thing}))
                self.assertEqual(raised(function, thing, 0, ((), 0)), ("BadGarden", {"thing": thing}))

    def test_no_rows(self):
        for thing in NO_ROWS:
            self.assertIs(is_row(GARDEN, thing), False, thing)
            for function in (row_kind, row_ends):
                self.assertEqual(raised(function, GARDEN, thing), ("BadRow", {"thing": thing}))
                self.assertEqual(raised(function, row=thing, garden=GARDEN), ("BadRow", {"thing": thing}))

    def test_no_addresses(self):
        for thing in NO_ADDRESSES + NEAR_WEBS:
            self.assertIs(is_address(GARDEN, thing), False, thing)
            for function in (degrees, rows_at):
                self.assertEqual(raised(function, GARDEN, thing, 60), ("BadAddress", {"thing": thing}))
                self.assertEqual(raised(function, GARDEN, thing, -1), ("BadAddress", {"thing": thing}))
            self.assertEqual(raised(place_of, GARDEN, 3, thing), ("BadAddress", {"thing": thing}))

    def test_no_numbers(self):
        for thing in NO_NUMBERS:
            for function in (degrees, rows_at):
                self.assertEqual(raised(function, GARDEN, ((), 0), thing), ("BadNumber", {"thing": thing}))
                self.assertEqual(raised(function, GARDEN, ((0,), 2), thing), ("BadNumber", {"thing": thing}))
            for function in (address_of, place_of):
                self.assertEqual(raised(function, GARDEN, thing, None), ("BadNumber", {"thing": thing}))
                self.assertEqual(raised(function, CHOSEN["fast"], thing, 0), ("BadNumber", {"thing": thing}))

    def test_too_many(self):
        for function in (address_of, place_of):
            self.assertEqual(raised(function, CHOSEN["fast"], 5, None), ("TooMany", {"most": 400}))
            self.assertEqual(raised(function, (TIE, ((2, ((0, 1, 0),) * 25),)), 60, None), ("TooMany", {"most": 600}))
            self.assertEqual(raised(function, ((10 ** 99, ()), (TIE,)), 1, None), ("TooMany", {"most": 400}))
        self.assertEqual(address_of(CHOSEN["fast"], 4, 171), ((0, 3, 3, 3), 3))
        self.assertEqual(place_of(CHOSEN["fast"], 4, ((0, 3, 3, 3), 3)), 171)

    def test_no_places(self):
        for thing in NO_INTEGERS + (-1, 3, 4, 10 ** 99):
            self.assertEqual(raised(address_of, GARDEN, 1, thing), ("BadPlace", {"thing": thing}))
            self.assertEqual(raised(address_of, place=thing, n=1, garden=GARDEN), ("BadPlace", {"thing": thing}))

    def test_other_gardens_have_other_rows(self):
        self.assertIs(is_row((FORKED, LONG), (1, 0)), True)
        self.assertIs(is_row((FORKED, LONG), (1, 1)), False)
        self.assertIs(is_row((TWICE, (BARE, TIE, ROW)), (2, 1)), True)
        self.assertIs(is_row((TWICE, (BARE, TIE, ROW)), (0, 0)), False)
        self.assertIs(is_address((TIE, (DIAMOND,)), ((0,), 3)), True)
        self.assertIs(is_address((TIE, (TAIL,)), ((0,), 3)), False)
        self.assertIs(is_address((LONE, (TIE,)), ((), 0)), True)
        self.assertIs(is_address((LONE, (TIE,)), ((), 1)), False)


if __name__ == "__main__":
    unittest.main()
