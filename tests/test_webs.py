import copy
import unittest

from manydeep.errors import BadGrowth, BadRenaming, BadWeb
from manydeep.webs import growth_renaming, is_book, is_garden, is_growth, is_web, led, renaming_between
from tests.anyvalues import (BARE, FORKED, GARDENS, LONE, NO_BOOKS, NO_GARDENS, NO_GROWTHS, NO_WEBS, RING, ROW, TIE,
                             TWICE, WEBS, WIDE, raised)


class Kinds(unittest.TestCase):
    """What is a web, a growth, a book, a garden [1.1, 1.2]."""

    def test_example(self):
        self.assertEqual(
            [is_web((2, ((1, 0, 0),))), is_web((2, ((0, 0, 0),))), is_growth((1, ())), is_garden((TIE, (TIE,))),
             is_garden((FORKED, (TIE,))), led(FORKED, (2, 0, 1)), renaming_between(FORKED, led(FORKED, (2, 0, 1))),
             growth_renaming(ROW, ROW)],
            [True, False, False, True, False, (3, ((2, 0, 0), (2, 1, 1))), (2, 0, 1), (0, 1, 2)])

    def test_webs(self):
        for web in WEBS:
            self.assertIs(is_web(web), True, web)
            self.assertIs(is_web(thing=web), True)

    def test_no_webs(self):
        for thing in NO_WEBS:
            self.assertIs(is_web(thing), False, thing)
            self.assertIs(is_web(thing=thing), False)

    def test_webs_of_any_size(self):
        many = 10 ** 99
        self.assertIs(is_web((many, ((0, many - 1, 2), (many - 1, 0, 0)))), True)
        self.assertIs(is_web((many, ((0, many, 2),))), False)
        self.assertIs(is_web((2, ((0, 1, 0),) * 700)), True)
        self.assertIs(is_web((2, ((0, 1, 0),) * 699 + ((0, 1, False),))), False)
        self.assertIs(is_growth((many, ())), True)
        self.assertIs(is_book(((many, ()),)), True)
        self.assertIs(is_garden(((many, ()), ((many, ()),))), True)

    def test_ties_are_sorted_by_tail_then_head_then_kind(self):
        ties = [(a, b, c) for a in range(3) for b in range(3) for c in range(3) if a != b]
        for one in ties:
            for other in ties:
                self.assertIs(is_web((3, (one, other))), one <= other)

    def test_growths(self):
        for web in WEBS:
            self.assertIs(is_growth(web), web != LONE, web)
            self.assertIs(is_growth(thing=web), web != LONE)
        for thing in NO_GROWTHS:
            self.assertIs(is_growth(thing), False, thing)

    def test_books(self):
        for book in [book for _, book in GARDENS] + [(TIE,), (BARE,), (RING, BARE, FORKED), (WIDE, TIE, TIE)]:
            self.assertIs(is_book(book), True, book)
            self.assertIs(is_book(thing=book), True)
        for thing in NO_BOOKS:
            self.assertIs(is_book(thing), False, thing)
            self.assertIs(is_book(thing=thing), False)

    def test_kinds_at_and_beyond_the_length_of_the_book(self):
        for length in range(5):
            for kind in range(-1, 5):
                growth = (2, ((0, 1, kind),))
                right = 1 <= length <= 3 and 0 <= kind < length
                for at in range(length):
                    book = (BARE,) * at + (growth,) + (BARE,) * (length - at - 1)
                    self.assertIs(is_book(book), right, book)
                    self.assertIs(is_garden((BARE, book)), right, book)
                self.assertIs(is_garden((growth, (BARE,) * length)), right, (growth, length))

    def test_gardens(self):
        for garden in GARDENS:
            self.assertIs(is_garden(garden), True, garden)
            self.assertIs(is_garden(thing=garden), True)
        for thing in NO_GARDENS:
            self.assertIs(is_garden(thing), False, thing)
            self.assertIs(is_garden(thing=thing), False)

    def test_parts_exchanged_for_other_values(self):
        for garden in GARDENS:
            for wrong in (None, True, "0", [], {}, -1, 1.0):
                for changed in changes_of(garden, wrong):
                    self.assertIs(is_garden(changed), False, changed)

    def test_arguments_stay_as_they_are(self):
        for thing in ([2, [[1, 0, 0], [0, 1, 0]]], (2, [(1, 0, 0), (0, 1, 0)]), {"a": [1]}):
            kept = copy.deepcopy(thing)
            for function in (is_web, is_growth, is_book, is_garden):
                self.assertIs(function(thing), False)
                self.assertEqual(thing, kept)


class Led(unittest.TestCase):
    """What led returns and raises [1.3]."""

    def test_ordinary_webs(self):
        self.assertEqual(led(ROW, (1, 0, 2)), (3, ((1, 2, 0), (2, 0, 0))))
        self.assertEqual(led(ROW, (2, 1, 0)), (3, ((0, 1, 0), (2, 0, 0))))
        self.assertEqual(led(web=FORKED, renaming=(1, 2, 0)), (3, ((1, 0, 1), (1, 2, 0))))
        self.assertEqual(led(TWICE, (1, 0)), (2, ((0, 1, 2), (1, 0, 0), (1, 0, 0))))

    def test_edges(self):
        self.assertEqual(led(LONE, (0,)), LONE)
        self.assertEqual(led((3, ()), (2, 0, 1)), (3, ()))
        for web in WEBS[:-1]:
            self.assertEqual(led(web, tuple(range(web[0]))), web)

    def test_back_again(self):
        for web in WEBS[:-1]:
            around = tuple((place + 1) % web[0] for place in range(web[0]))
            back = tuple((place - 1) % web[0] for place in range(web[0]))
            self.assertIs(is_web(led(web, around)), True)
            self.assertEqual(led(led(web, around), back), web)

    def test_wrong_webs(self):
        for thing in NO_WEBS:
            self.assertEqual(raised(led, thing, (0, 1)), ("BadWeb", {"thing": thing}))

    def test_wrong_renamings(self):
        wrong = [(0, 1), (0, 1, 2, 3), (0, 1, 1), (0, 1, 3), (0, 1, -1), (1, 2, 3), (0, True, 2), (False, 1, 2),
                 [0, 1, 2], (0, 1, "2"), (0, 1, None), (0, 1, (2,)), (0, 1, [2]), "012", {0: 0, 1: 1, 2: 2}, None, 3,
                 (), ((0, 1, 2),), True, (0, 1, {}), (10 ** 99, 0, 1), (None, None, None)]
        for thing in wrong:
            self.assertEqual(raised(led, FORKED, thing), ("BadRenaming", {"thing": thing}))
            self.assertEqual(raised(led, web=FORKED, renaming=thing), ("BadRenaming", {"thing": thing}))
        self.assertEqual(raised(led, LONE, (1,)), ("BadRenaming", {"thing": (1,)}))
        self.assertEqual(raised(led, LONE, (False,)), ("BadRenaming", {"thing": (False,)}))
        self.assertEqual(raised(led, (10 ** 99, ()), (0,)), ("BadRenaming", {"thing": (0,)}))

    def test_both_arguments_wrong(self):
        self.assertEqual(raised(led, (0, ()), (5,)), ("BadWeb", {"thing": (0, ())}))
        self.assertEqual(raised(led, renaming=None, web=[]), ("BadWeb", {"thing": []}))

    def test_the_very_value_is_told(self):
        for thing in ([1], {"a": 1}):
            with self.assertRaises(BadWeb) as caught:
                led(thing, thing)
            self.assertIs(caught.exception.thing, thing)
            with self.assertRaises(BadRenaming) as caught:
                led(TIE, thing)
            self.assertIs(caught.exception.thing, thing)
            with self.assertRaises(BadGrowth) as caught:
                growth_renaming(TIE, thing)
            self.assertIs(caught.exception.thing, thing)


def changes_of(thing, wrong):
    """The values that come of a tuple if one of its parts, at any depth, gives way to another value."""
    changed = [wrong]
    if isinstance(thing, tuple):
        for at, part in enumerate(thing):
            changed.extend(thing[:at] + (other,) + thing[at + 1:] for other in changes_of(part, wrong))
    return changed


if __name__ == "__main__":
    unittest.main()
