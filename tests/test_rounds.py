import unittest

from manydeep.rounds import book_power, grown, joined_book, one_round
from manydeep.webs import growth_renaming, is_web, renaming_between
from tests.anyvalues import (BARE, FORKED, LONE, NO_BOOKS, NO_GARDENS, NO_NUMBERS, NO_WEBS, RING, ROW, TIE, TWICE, raised)
from tests.assorted import CHOSEN, DIAMOND, GARDENS, LONG, TIE_OF_ONE, TRIANGLE, thrown_gardens
from tests.plainly import put_in

TOO_MANY_PLACES, TOO_MANY_TIES = ("TooMany", {"most": 400}), ("TooMany", {"most": 600})


def ties(many, kind=0):
    """A web of two places and so many ties."""
    return (2, ((0, 1, kind),) * many)


def pieces(book, rounds):
    """The growths that come of one tie of each kind."""
    found = []
    for kind in range(len(book)):
        piece = (2, ((0, 1, kind),))
        for _ in range(rounds):
            piece = put_in(piece, book)
        found.append(piece)
    return tuple(found)


class OneRound(unittest.TestCase):
    """one_round [2.1]."""

    def test_example(self):
        self.assertEqual(one_round(TIE, LONG), (3, ((0, 2, 0), (2, 1, 1))))

    def test_tail_end_at_the_tail_and_head_end_at_the_head(self):
        self.assertEqual(one_round((2, ((1, 0, 0),)), LONG), (3, ((1, 2, 0), (2, 0, 1))))
        self.assertEqual(one_round((3, ((2, 0, 0),)), ((2, ((0, 1, 0), (1, 0, 0))),)), (3, ((0, 2, 0), (2, 0, 0))))

    def test_inner_places_get_the_next_integers_tie_by_tie(self):
        book = ((4, ((0, 3, 0), (2, 1, 1), (2, 3, 1))), (3, ((0, 2, 1), (2, 1, 0))))
        web = (3, ((0, 1, 0), (0, 2, 1), (1, 2, 0)))
        # The first tie bears 3 and 4, the second one 5, the third one 6 and 7.
        self.assertEqual(one_round(web, book), (8, (
            (0, 4, 0), (0, 5, 1), (1, 7, 0), (3, 1, 1), (3, 4, 1), (5, 2, 0), (6, 2, 1), (6, 7, 1))))

    def test_ties_that_stand_twice_bear_places_of_their_own(self):
        self.assertEqual(one_round(ties(2), (ROW,)), (4, ((0, 2, 0), (0, 3, 0), (2, 1, 0), (3, 1, 0))))
        self.assertEqual(one_round(TWICE, (TIE, TIE, ROW)), (3, ((0, 1, 0), (0, 1, 0), (1, 2, 0), (2, 0, 0))))

    def test_repeats_stay(self):
        self.assertEqual(one_round(ties(2), (ties(3),)), ties(6))
        self.assertEqual(one_round((2, ((0, 1, 0), (1, 0, 1))), (TIE, (2, ((1, 0, 0),)))), ties(2))

    def test_ties_are_sorted(self):
        self.assertEqual(one_round((2, ((0, 1, 0), (0, 1, 1))), ((2, ((0, 1, 1),)), (2, ((0, 1, 0), (1, 0, 0))))),
                         (2, ((0, 1, 0), (0, 1, 1), (1, 0, 0))))

    def test_all_ties_go(self):
        self.assertEqual(one_round(TRIANGLE, (BARE,)), (3, ()))
        self.assertEqual(one_round(FORKED, (BARE, TIE)), (3, ((0, 2, 0),)))

    def test_places_without_ties(self):
        self.assertEqual(one_round(LONE, LONG), LONE)
        self.assertEqual(one_round((5, ()), (DIAMOND,)), (5, ()))
        self.assertEqual(one_round((3, ((1, 2, 0),)), (ROW,)), (4, ((1, 3, 0), (3, 2, 0))))
        # Loose inner places come, too.
        self.assertEqual(one_round(ties(2), ((4, ((0, 1, 0),)),)), (6, ((0, 1, 0), (0, 1, 0))))

    def test_growths_of_kinds_that_are_not_there(self):
        self.assertEqual(one_round(TIE, (TIE, (10 ** 99, ()), ties(700))), TIE)

    def test_against_a_plain_way(self):
        for start, book in list(GARDENS) + thrown_gardens(200, 1):
            web = start
            for _ in range(3):
                web = one_round(web, book) if len(web[1]) < 40 else web
                self.assertIs(is_web(web), True)
            for web in (start, one_round(start, book)):
                self.assertEqual(one_round(web, book), put_in(web, book))

    def test_as_many_places_as_can_be(self):
        star = (400, tuple((0, place, 0) for place in range(1, 400)))
        self.assertEqual(one_round(star, (TIE,)), star)
        self.assertEqual(one_round((400, ()), (ROW,)), (400, ()))
        self.assertEqual(raised(one_round, (401, ()), (ROW,)), TOO_MANY_PLACES)
        self.assertEqual(raised(one_round, (401, ((0, 1, 0),)), (BARE,)), TOO_MANY_PLACES)
        self.assertEqual(one_round((200, ties(100)[1]), ((4, ()),)), (400, ()))
        self.assertEqual(raised(one_round, (201, ties(100)[1]), ((4, ()),)), TOO_MANY_PLACES)
        self.assertEqual(one_round(ties(199), ((4, ()),)), (400, ()))
        self.assertEqual(raised(one_round, ties(200), ((4, ()),)), TOO_MANY_PLACES)
        self.assertEqual(raised(one_round, TIE, ((10 ** 99, ()),)), TOO_MANY_PLACES)
        self.assertEqual(raised(one_round, (10 ** 99, ()), (TIE,)), TOO_MANY_PLACES)

    def test_as_many_ties_as_can_be(self):
        self.assertEqual(one_round(ties(300), (ties(2),)), ties(600))
        self.assertEqual(one_round(ties(600), (TIE,)), ties(600))
        self.assertEqual(raised(one_round, ties(601), (TIE,)), TOO_MANY_TIES)
        self.assertEqual(one_round(ties(601), (BARE,)), BARE)
        self.assertEqual(raised(one_round, ties(201), (ties(3),)), TOO_MANY_TIES)
        self.assertEqual(raised(one_round, (2, ties(300)[1] + ((0, 1, 1),)), (ties(2), TIE)), TOO_MANY_TIES)

    def test_both_limits_passed_in_one_round(self):
        self.assertEqual(raised(one_round, ties(500), (ROW,)), TOO_MANY_PLACES)
        self.assertEqual(raised(one_round, (401, ties(601)[1]), (TIE,)), TOO_MANY_PLACES)
        self.assertEqual(raised(one_round, ties(200), ((4, ties(4)[1]),)), TOO_MANY_PLACES)
        self.assertEqual(raised(one_round, ties(199), ((4, ties(4)[1]),)), TOO_MANY_TIES)

    def test_wrong_arguments(self):
        for thing in NO_WEBS:
            self.assertEqual(raised(one_round, thing, LONG), ("BadWeb", {"thing": thing}))
            self.assertEqual(raised(one_round, thing, None), ("BadWeb", {"thing": thing}))
        for thing in NO_BOOKS + ((TIE,),):
            self.assertEqual(raised(one_round, FORKED, thing), ("BadBook", {"thing": thing}))
            self.assertEqual(raised(one_round, book=thing, web=(401, ((0, 1, 1),))), ("BadBook", {"thing": thing}))
        self.assertEqual(raised(one_round, (2, ((0, 1, 2),)), LONG), ("BadBook", {"thing": LONG}))
        self.assertEqual(raised(one_round, LONE, (TIE, TIE, TIE, TIE)), ("BadBook", {"thing": (TIE, TIE, TIE, TIE)}))


class Grown(unittest.TestCase):
    """grown [2.1]."""

    def test_example(self):
        self.assertEqual(grown((TIE, LONG), 2), (4, ((0, 3, 0), (2, 1, 0), (3, 2, 1))))

    def test_round_by_round(self):
        for start, book in GARDENS:
            web = start
            for n in range(5):
                self.assertEqual(grown((start, book), n), web)
                self.assertEqual(grown(garden=(start, book), n=n), web)
                web = put_in(web, book)
                if len(web[1]) > 600:
                    break

    def test_no_round_is_the_start_of_any_size(self):
        for start in (LONE, FORKED, (401, ()), ties(601), (10 ** 99, ())):
            self.assertEqual(grown((start, LONG), 0), start)

    def test_sixty_rounds(self):
        self.assertEqual(grown(CHOSEN["still"], 60), TIE)
        self.assertEqual(grown(CHOSEN["turning"], 60), FORKED)
        self.assertEqual(grown(CHOSEN["turning"], 59), (3, ((0, 1, 1), (2, 0, 0))))
        self.assertEqual(grown(CHOSEN["turning"], 58), (3, ((1, 0, 0), (2, 0, 1))))
        self.assertEqual(grown(CHOSEN["dead at once"], 60), (3, ()))
        self.assertEqual(grown(CHOSEN["bare"], 60), (5, ()))
        self.assertEqual(grown(CHOSEN["slow"], 60), (2, ((0, 1, 0),) + ((0, 1, 1),) * 60))
        self.assertEqual(grown(CHOSEN["slow with places"], 60),
                         (62, ((0, 1, 0),) + tuple((0, place, 1) for place in range(2, 62))))

    def test_webs_that_come_again(self):
        for name in ("still", "turning", "dead at once", "bare", "three without ties"):
            web, book = CHOSEN[name]
            for n in range(61):
                self.assertEqual(grown(CHOSEN[name], n), web, (name, n))
                web = put_in(web, book)
        for n in range(4):
            self.assertEqual(grown(CHOSEN["turning"], 10 ** 30 + n), grown(CHOSEN["turning"], n))

    def test_too_many_at_the_first_round_at_which_it_is_due(self):
        # After n rounds there are 4 ** n ties and 2 + 2 * (4 ** n - 1) // 3 places.
        fast = CHOSEN["fast"]
        self.assertEqual((grown(fast, 4)[0], len(grown(fast, 4)[1])), (172, 256))
        for n in (5, 6, 60):
            self.assertEqual(raised(grown, fast, n), TOO_MANY_PLACES)
        doubling = (TIE, (ties(2),))
        self.assertEqual(grown(doubling, 9), ties(512))
        for n in (10, 60):
            self.assertEqual(raised(grown, doubling, n), TOO_MANY_TIES)
        # First too many ties, in a later round too many places, too.
        later = (ties(601), (ties(1), ROW))
        self.assertEqual(raised(grown, later, 2), TOO_MANY_TIES)
        mixed = (TIE, (ties(30), TIE, TIE))
        self.assertEqual(raised(grown, mixed, 2), TOO_MANY_TIES)
        # Ties die out again behind the round in which they are too many.
        self.assertEqual(raised(grown, (ties(301, 1), (BARE, (2, ((0, 1, 0), (0, 1, 0))))), 2), TOO_MANY_TIES)

    def test_wrong_arguments(self):
        for thing in NO_GARDENS:
            self.assertEqual(raised(grown, thing, 1), ("BadGarden", {"thing": thing}))
            self.assertEqual(raised(grown, thing, -1), ("BadGarden", {"thing": thing}))
        for thing in NO_NUMBERS:
            self.assertEqual(raised(grown, CHOSEN["fast"], thing), ("BadNumber", {"thing": thing}))
            self.assertEqual(raised(grown, n=thing, garden=((401, ()), LONG)), ("BadNumber", {"thing": thing}))


class Joined(unittest.TestCase):
    """joined_book and book_power [2.2]."""

    def test_example(self):
        self.assertEqual(joined_book(LONG, LONG), ((4, ((0, 3, 0), (2, 1, 0), (3, 2, 1))), (3, ((0, 2, 0), (2, 1, 1)))))

    def test_growth_by_growth(self):
        books = [book for _, book in GARDENS]
        for one in books:
            for other in books:
                if len(one) == len(other):
                    self.assertEqual(joined_book(one, other), tuple(put_in(growth, other) for growth in one))
                    self.assertEqual(joined_book(other=other, one=one), joined_book(one, other))

    def test_one_round_by_the_joined_book_is_a_round_by_each(self):
        checked = 0
        gardens = [garden for garden in thrown_gardens(300, 2, 3, 3) if len(garden[1]) == 2]
        for (start, one), (_, other) in zip(gardens, gardens[1:]):
            at_once = one_round(start, joined_book(one, other))
            by_turns = one_round(one_round(start, one), other)
            self.assertEqual((at_once[0], len(at_once[1])), (by_turns[0], len(by_turns[1])))
            if at_once[0] <= 9:
                self.assertIsNotNone(renaming_between(at_once, by_turns))
                checked += 1
        self.assertGreater(checked, 40)

    def test_powers_are_pieces(self):
        for start, book in list(GARDENS) + thrown_gardens(60, 3, 3, 3):
            self.assertEqual(book_power(book, 1), book)
            power = book
            for n in (2, 3):
                if max(len(growth[1]) for growth in power) > 60:
                    break
                power = joined_book(power, book)
                self.assertEqual(book_power(book, n), power)
                self.assertEqual(book_power(n=n, book=book), power)
                for growth, piece in zip(power, pieces(book, n)):
                    self.assertEqual((growth[0], len(growth[1])), (piece[0], len(piece[1])))
                    if growth[0] <= 9:
                        self.assertIsNotNone(growth_renaming(growth, piece))

    def test_the_first_power_is_the_book_of_any_size(self):
        for book in (((401, ()),), (ties(601),), ((10 ** 99, ()), TIE)):
            self.assertEqual(book_power(book, 1), book)

    def test_sixty(self):
        self.assertEqual(book_power((TIE,), 60), (TIE,))
        self.assertEqual(book_power(((2, ((1, 0, 0),)),), 60), (TIE,))
        self.assertEqual(book_power(((2, ((1, 0, 0),)),), 59), ((2, ((1, 0, 0),)),))
        self.assertEqual(book_power((BARE, TIE, TIE_OF_ONE), 60), (BARE, BARE, BARE))
        slow = CHOSEN["slow"][1]
        self.assertEqual(book_power(slow, 60)[0], (2, ((0, 1, 0),) + ((0, 1, 1),) * 60))

    def test_powers_that_come_again(self):
        for name in ("still", "turning", "dead at once", "three without ties"):
            book = power = CHOSEN[name][1]
            for n in range(1, 61):
                self.assertEqual(book_power(book, n), power, (name, n))
                power = joined_book(power, book)
        self.assertEqual(book_power(((2, ((1, 0, 0),)),), 10 ** 30 + 1), ((2, ((1, 0, 0),)),))

    def test_too_many(self):
        self.assertEqual(book_power((ties(2),), 9), (ties(512),))
        self.assertEqual(raised(book_power, (ties(2),), 10), TOO_MANY_TIES)
        self.assertEqual(raised(book_power, (ties(2),), 60), TOO_MANY_TIES)
        self.assertEqual(raised(book_power, (DIAMOND,), 60), TOO_MANY_PLACES)
        # The growth of the least kind that is too great tells the error.
        many, wide = ties(31), (30, tuple((0, place, 0) for place in range(1, 21)))
        both = (many, wide, TIE)
        self.assertEqual(raised(joined_book, both, (many, TIE, TIE)), TOO_MANY_TIES)
        self.assertEqual(raised(joined_book, (wide, many, TIE), (many, TIE, TIE)), TOO_MANY_TIES)
        self.assertEqual(raised(joined_book, (wide, many, TIE), ((42, ties(31)[1]), TIE, TIE)), TOO_MANY_PLACES)
        self.assertEqual(raised(joined_book, (TIE, ties(601), (401, ())), (TIE, TIE, TIE)), TOO_MANY_TIES)
        self.assertEqual(raised(joined_book, (TIE, (401, ()), ties(601)), (TIE, TIE, TIE)), TOO_MANY_PLACES)
        self.assertEqual(raised(joined_book, ((401, ties(601)[1]),), (TIE,)), TOO_MANY_PLACES)
        # In the second power a later growth is too great, in the third one an earlier one with another error.
        book = ((2, ((0, 1, 1),)), (2, ((0, 1, 2),)), ties(25, 2))
        self.assertEqual(raised(book_power, book, 2), TOO_MANY_TIES)
        self.assertEqual(raised(book_power, ((30, ties(29, 1)[1]), (2, ((0, 1, 2),)), ties(25, 2)), 60), TOO_MANY_TIES)

    def test_wrong_books(self):
        for thing in NO_BOOKS:
            for function in (joined_book, book_power):
                self.assertEqual(raised(function, thing, thing), ("BadBook", {"thing": thing}))
            self.assertEqual(raised(joined_book, thing, (TIE, TIE)), ("BadBook", {"thing": thing}))
            self.assertEqual(raised(joined_book, ((401, ()),), thing), ("BadBook", {"thing": thing}))
            self.assertEqual(raised(joined_book, other=[], one=thing), ("BadBook", {"thing": thing}))
            self.assertEqual(raised(book_power, thing, 1), ("BadBook", {"thing": thing}))

    def test_books_of_other_lengths(self):
        books = ((TIE,), (TIE, TIE), (TIE, TIE, TIE))
        for one in books:
            for other in books:
                if one != other:
                    self.assertEqual(raised(joined_book, one, other), ("BadBook", {"thing": other}))
        self.assertEqual(raised(joined_book, ((401, ()),), (TIE, TIE)), ("BadBook", {"thing": (TIE, TIE)}))

    def test_wrong_exponents(self):
        for thing in NO_NUMBERS + (0,):
            self.assertEqual(raised(book_power, LONG, thing), ("BadNumber", {"thing": thing}))
            self.assertEqual(raised(book_power, n=thing, book=((401, ()),)), ("BadNumber", {"thing": thing}))


if __name__ == "__main__":
    unittest.main()
