import itertools
import random
import unittest

from manydeep.marks import holds_by, marks_row, next_row
from tests import plainly
from tests.anyvalues import BARE, FORKED, LONE, NO_BOOKS, NO_NUMBERS, NO_WEBS, NO_WISHES, ROW, STRANGE, TIE, TWICE, raised
from tests.assorted import (CHOSEN, DIAMOND, GARDENS, JOINT, LONG, PLAIN, TRIANGLE, WISHES, thrown_gardens, thrown_plain,
                            thrown_web, thrown_wish, webs_of)
from tests.standins import marks_told, stand_ins

KINDS = (
    ("joined",), ("sided",), ("hues", 1), ("hues", 2), ("hues", 3), ("hues", 4), ("hues", 5), ("paired",), ("round",),
    ("ringed",), ("whole",), ("even",), ("number", 0, 2, 1), ("number", 1, 3, 0), ("number", 2, 12, 11), ("far", 0, 1, 1),
    ("far", 0, 1, 2), ("far", 1, 2, 5), ("far", 0, 2, 12), ("apart", 0, 1, 1), ("apart", 1, 0, 3), ("apart", 0, 2, 6),
)
BOOKS = tuple(dict.fromkeys(book for _, book in GARDENS))


def pieces(book, places=9, ties=11, rounds=4):
    """For each kind the list of the pieces after 0, 1, .. rounds, as long as they are small."""
    return [webs_of(((2, ((0, 1, kind),)), book), places, ties, rounds) for kind in range(len(book))]


def rows_of_marks(dice, wish, length):
    """A row of marks, thrown with dice, and stand-ins for them."""
    row = tuple(dice.choice(marks_told(wish)) for _ in range(length))
    return row, tuple(dice.choice(stand_ins(wish)[mark]) for mark in row)


def few_enough(web, wish):
    """Whether a plain search over all possibilities is short enough for a web."""
    if wish[0] == "hues":
        return wish[1] ** web[0] <= 20000
    if wish[0] == "number":
        return True
    return web[0] <= 14 and len(web[1]) <= 10


class MarksRow(unittest.TestCase):
    """marks_row [5.1, 5.2]."""

    def test_examples(self):
        self.assertEqual(
            [marks_row(LONG, ('joined',), 3), marks_row(LONG, ('sided',), 1), marks_row(LONG, ('hues', 2), 1),
             marks_row(LONG, ('paired',), 1), marks_row(LONG, ('round',), 1)],
            [('one', 'one'), ('even', 'odd'), ((True, False), (False, True)), (((0,), (1,)), ((), (0, 1))),
             ((False, True, False), (True, True, False))])
        self.assertEqual(
            [marks_row(LONG, ('ringed',), 1), marks_row(LONG, ('whole',), 1), marks_row(LONG, ('even',), 1),
             marks_row(LONG, ('far', 0, 1, 5), 3), holds_by(TIE, ('far', 0, 1, 5), (5, 3)),
             next_row(LONG, ('sided',), ('even', 'odd'))],
            [((True, 'tied'), (True, 'tied')), ('tied', 'bare'), ((True, 1, 1), (True, 1, 1)), (5, 3), True, ('odd', 'even')])

    def test_single_ties(self):
        book = (BARE, FORKED, ROW)
        for wish, told in (
                (("joined",), "one"), (("sided",), "odd"), (("hues", 1), (False, False)), (("hues", 2), (False, True)),
                (("hues", 5), (False, True)), (("paired",), ((), (0, 1))), (("round",), (True, True, False)),
                (("ringed",), (True, "tied")), (("whole",), "bare"), (("even",), (True, 1, 1)), (("far", 0, 1, 1), 1),
                (("far", 5, 1, 12), 1), (("apart", 0, 1, 1), 1), (("apart", 9, 1, 6), 1)):
            self.assertEqual(exactly(marks_row(book, wish, 0)), exactly((told,) * 3))
            self.assertEqual(exactly(marks_row(book[:1], wish, 0)), exactly((told,)))
        for kind in range(3):
            for m in (2, 3, 12):
                expected = tuple(1 if other == kind else 0 for other in range(3))
                self.assertEqual(marks_row(book, ("number", kind, m, 0), 0), expected)
                self.assertEqual(marks_row((BARE,), ("number", kind, m, 0), 0), expected[:1])

    def test_against_pieces_that_are_grown(self):
        checked = 0
        for book in BOOKS + tuple(book for _, book in thrown_gardens(150, 14)):
            for kind, grown in enumerate(pieces(book)):
                for n, piece in enumerate(grown):
                    for wish in KINDS:
                        if few_enough(piece, wish):
                            expected = plainly.mark(piece, wish)
                            self.assertEqual(exactly(marks_row(book, wish, n)[kind]), exactly(expected), (book, wish, n))
                            checked += 1
        self.assertGreater(checked, 10000)

    def test_joint_wishes_against_pieces_that_are_grown(self):
        dice = random.Random(15)
        for book in BOOKS:
            for wish in JOINT + tuple(thrown_wish(dice, 3, 4) for _ in range(5)):
                for kind, grown in enumerate(pieces(book, 7, 7, 2)):
                    for n, piece in enumerate(grown):
                        self.assertEqual(exactly(marks_row(book, wish, n)[kind]), exactly(plainly.mark(piece, wish)))

    def test_round_by_round(self):
        for book in BOOKS:
            for wish in WISHES:
                row = marks_row(book, wish, 0)
                for n in range(1, 101):
                    row = next_row(book, wish, row)
                    if n < 12 or n in (50, 99, 100):
                        self.assertEqual(marks_row(book, wish, n), row)
                        self.assertEqual(marks_row(n=n, wish=wish, book=book), row)

    def test_numbers_of_many_rounds(self):
        for m in range(2, 13):
            self.assertEqual(marks_row((DIAMOND,), ("number", 0, m, 0), 100), (pow(4, 100, m),))
            self.assertEqual(marks_row(CHOSEN["slow"][1], ("number", 1, m, 0), 100), (100 % m, 1))
            self.assertEqual(marks_row((ROW,), ("number", 1, m, 0), 100), (0,))

    def test_distances_and_ways_apart_at_their_bounds(self):
        for d in range(1, 13):
            self.assertEqual([marks_row((ROW,), ("far", 0, 1, d), n) for n in range(6)],
                             [(min(d, 2 ** n),) for n in range(6)])
            self.assertEqual(marks_row((BARE,), ("far", 0, 1, d), 1), (d,))
            self.assertEqual(marks_row(((4, ((2, 3, 0),)),), ("far", 0, 1, d), 100), (d,))
        for c in range(1, 7):
            self.assertEqual([marks_row(((2, TIE[1] * 2),), ("apart", 0, 1, c), n) for n in range(6)],
                             [(min(c, 2 ** n),) for n in range(6)])
            self.assertEqual(marks_row((BARE,), ("apart", 0, 1, c), 1), (0,))

    def test_wrong_arguments(self):
        for thing in NO_BOOKS:
            self.assertEqual(raised(marks_row, thing, ("joined",), 0), ("BadBook", {"thing": thing}))
            self.assertEqual(raised(marks_row, thing, None, None), ("BadBook", {"thing": thing}))
        for thing in NO_WISHES:
            self.assertEqual(raised(marks_row, LONG, thing, 0), ("BadWish", {"thing": thing}))
            self.assertEqual(raised(marks_row, n=-1, wish=thing, book=LONG), ("BadWish", {"thing": thing}))
        for thing in NO_NUMBERS:
            self.assertEqual(raised(marks_row, LONG, ("joined",), thing), ("BadNumber", {"thing": thing}))


class NextRow(unittest.TestCase):
    """next_row for all marks that a wish can have [5.1, 5.2]."""

    def check(self, book, wish, row, stand_in):
        """Check a row of one growth against the web that comes if ties give way to stand-ins."""
        for kind, growth in enumerate(book):
            web = plainly.put_in(growth, stand_in)
            if few_enough(web, wish):
                found = next_row(book, wish, row)[kind]
                self.assertEqual(exactly(found), exactly(plainly.mark(web, wish)), (book, wish, row, kind))

    def test_each_mark_has_its_stand_ins(self):
        for wish in KINDS:
            for mark, growths in stand_ins(wish).items():
                # A book of the one tie leads each mark to itself, turned about where the tie is.
                self.assertEqual(exactly(next_row((TIE,), wish, (mark,))), exactly((mark,)))
                for growth in growths:
                    self.assertEqual(exactly(plainly.mark(growth, wish)), exactly(mark))

    def test_growths_of_few_ties_with_all_rows(self):
        growths = [(2, ties) for ties in ((), ((0, 1, 0),), ((1, 0, 0),), ((0, 1, 0), (0, 1, 1)), ((0, 1, 0), (1, 0, 1)))]
        growths += [(3, ties) for ties in (
            (), ((0, 1, 0),), ((0, 2, 0),), ((2, 1, 1),), ((0, 2, 0), (2, 1, 1)), ((0, 2, 0), (1, 2, 1)), ((2, 0, 0), (2, 1, 1)),
            ((0, 1, 0), (0, 2, 1)), ((0, 2, 0), (0, 2, 1)), ((0, 1, 0), (0, 2, 1), (2, 1, 1)), ((0, 2, 0), (0, 2, 1), (1, 2, 1)))]
        for wish in KINDS:
            for row in itertools.product(stand_ins(wish), repeat=2):
                stand_in = tuple(stand_ins(wish)[mark][-1] for mark in row)
                if wish[0] in ("number", "far") and max(row) > 4:
                    continue
                for growth in growths:
                    self.check((growth, BARE), wish, row, stand_in)

    def test_thrown_growths_and_rows(self):
        dice = random.Random(16)
        for _ in range(12000):
            wish = dice.choice(KINDS)
            kinds = dice.randint(1, 3)
            row, stand_in = rows_of_marks(dice, wish, kinds)
            growth = thrown_web(dice, dice.randint(2, 5), dice.randint(0, 5), kinds)
            self.check((growth,) + (BARE,) * (kinds - 1), wish, row, stand_in)

    def test_each_part_is_led_by_itself(self):
        dice = random.Random(17)
        for _ in range(400):
            one, other = dice.choice(KINDS), dice.choice(KINDS)
            _, book = thrown_gardens(1, dice.random())[0]
            ones, _ = rows_of_marks(dice, one, len(book))
            others, _ = rows_of_marks(dice, other, len(book))
            led = tuple(zip(next_row(book, one, ones), next_row(book, other, others)))
            for word in ("and", "or"):
                self.assertEqual(next_row(book, (word, one, other), tuple(zip(ones, others))), led)
                self.assertEqual(next_row(row=tuple(zip(ones, others)), wish=(word, one, ("not", other)), book=book), led)
            self.assertEqual(next_row(book, ("not", one), ones), next_row(book, one, ones))

    def test_rows_that_no_book_has(self):
        # A number's mark is the sum of those of the ties' kinds, whatever kind is counted.
        book = (DIAMOND, (2, ((0, 1, 0), (0, 1, 0), (0, 1, 1))))
        for wish in (("number", 0, 12, 0), ("number", 1, 12, 0), ("number", 2, 12, 5)):
            self.assertEqual(next_row(book, wish, (7, 11)), (4 * 7 % 12, (7 + 7 + 11) % 12))
        self.assertEqual(next_row((ROW,), ("hues", 1), ((True, False),)), ((True, False),))
        self.assertEqual(next_row((ROW,), ("hues", 1), ((False, False),)), ((False, False),))
        self.assertEqual(next_row((BARE,), ("hues", 1), ((False, False),)), ((True, False),))
        self.assertEqual(next_row((ROW,), ("far", 0, 1, 12), (12,)), (12,))
        self.assertEqual(next_row((ROW,), ("apart", 0, 1, 6), (0,)), (0,))
        self.assertEqual(next_row(((2, TIE[1] * 3),), ("apart", 0, 1, 6), (6,)), (6,))
        self.assertEqual(next_row((ROW,), ("paired",), (((), (0, 1)),)), (((0,), (1,)),))
        self.assertEqual(next_row((ROW,), ("paired",), (((0, 1),),)), ((),))

    def test_wrong_books_and_wishes(self):
        for thing in NO_BOOKS:
            self.assertEqual(raised(next_row, thing, ("joined",), ("one",)), ("BadBook", {"thing": thing}))
            self.assertEqual(raised(next_row, thing, (), None), ("BadBook", {"thing": thing}))
        for thing in NO_WISHES:
            self.assertEqual(raised(next_row, LONG, thing, ("one", "one")), ("BadWish", {"thing": thing}))
            self.assertEqual(raised(next_row, row=None, wish=thing, book=LONG), ("BadWish", {"thing": thing}))

    def test_wrong_rows(self):
        for wish in KINDS:
            for mark in marks_told(wish):
                for row in ((), (mark,), (mark, mark, mark), [mark, mark], mark, (mark, (mark,)), ((mark, mark),), None):
                    if not is_row_told(wish, row, (2,)):
                        self.assertEqual(raised(next_row, LONG, wish, row), ("BadMarks", {"thing": row}))
                        self.assertEqual(raised(next_row, row=row, wish=wish, book=LONG), ("BadMarks", {"thing": row}))
            for mark in no_marks(wish):
                for row in ((mark,), (marks_told(wish)[0], mark), (mark, marks_told(wish)[-1])):
                    book = (TIE,) * len(row)
                    self.assertEqual(raised(next_row, book, wish, row), ("BadMarks", {"thing": row}), (wish, row))

    def test_wrong_rows_of_joint_wishes(self):
        wish = ("and", ("joined",), ("not", ("number", 0, 2, 0)))
        self.assertEqual(next_row((ROW,), wish, (("one", 1),)), (("one", 0),))
        for mark in ("one", 1, ("one",), ("one", 1, 1), ["one", 1], ("one", 2), ("one", True), (1, "one"), ("odd", 1), (None, 1),
                     ("one", None), (("one", 1),), ((), ()), {}, ("one", (1,))):
            self.assertEqual(raised(next_row, (ROW,), wish, (mark,)), ("BadMarks", {"thing": (mark,)}))
        self.assertEqual(raised(next_row, (ROW,), ("not", ("joined",)), (("one",),)), ("BadMarks", {"thing": (("one",),)}))


class HoldsBy(unittest.TestCase):
    """holds_by [5.2]."""

    def check(self, start, wish, row, expected):
        self.assertIs(holds_by(start, wish, row), expected, (start, wish, row))
        self.assertIs(holds_by(row=row, wish=wish, start=start), expected)

    def test_against_webs_of_stand_ins(self):
        dice = random.Random(18)
        checked = 0
        for _ in range(15000):
            wish = dice.choice(KINDS)
            kinds = dice.randint(1, 3)
            row, stand_in = rows_of_marks(dice, wish, kinds)
            start = thrown_web(dice, dice.randint(1, 5), dice.randint(0, 5), kinds)
            web = plainly.put_in(start, stand_in)
            if few_enough(web, wish):
                never = wish[0] in ("far", "apart") and max(wish[1], wish[2]) >= start[0]
                self.check(start, wish, row, plainly.holds(web, wish) and not never)
                checked += 1
        self.assertGreater(checked, 7000)

    def test_starts_of_one_and_two_places_with_all_rows(self):
        starts = [LONE, BARE, TIE, (2, ((0, 1, 0), (0, 1, 1))), (2, ((0, 1, 0), (1, 0, 0))), (3, ((0, 1, 0), (1, 2, 1)))]
        for wish in KINDS:
            for row in itertools.product(stand_ins(wish), repeat=2):
                if wish[0] in ("number", "far") and max(row) > 4:
                    continue
                stand_in = tuple(stand_ins(wish)[mark][0] for mark in row)
                for start in starts:
                    web = plainly.put_in(start, stand_in)
                    if few_enough(web, wish):
                        never = wish[0] in ("far", "apart") and max(wish[1], wish[2]) >= start[0]
                        self.check(start, wish, row, plainly.holds(web, wish) and not never)

    def test_rings_that_have_to_go_over_some_ties(self):
        # Pieces of the kind 1 have an inner place, those of the kind 2 bear no way.
        dice = random.Random(40)
        row = ((True, True, False), (False, True, False), (True, False, False))
        told = {True: 0, False: 0}
        for _ in range(2500):
            places = dice.choice((4, 5, 5, 6))
            pairs = dice.sample(list(itertools.combinations(range(places), 2)), min(10, places * (places - 1) // 2) - dice.randrange(2))
            start = (places, tuple(sorted((*pair, dice.choice((0, 0, 0, 1, 1, 2))) for pair in pairs)))
            holds = any(set(tie for tie in start[1] if tie[2] == 1) <= set(ring) for ring in rings(start))
            self.check(start, ("round",), row, holds)
            # The same for a way between the ends that meets all places.
            growth = (places, tuple(tie for tie in start[1] if tie[:2] != (0, 1)))
            closed = (places, ((0, 1, 1),) + growth[1])
            way = any(set(tie for tie in closed[1] if tie[2] == 1) <= set(ring) for ring in rings(closed))
            self.assertEqual(next_row((growth, BARE, BARE), ("round",), row)[0][1], way, growth)
            told[holds] += 1
        self.assertGreater(min(told.values()), 300)

    def test_against_gardens_that_are_grown(self):
        for start, book in thrown_gardens(150, 19, 3, 3):
            for n, web in enumerate(webs_of((start, book), 10, 10, 3)):
                for wish in WISHES:
                    if few_enough(web, wish) and not has_places_from(wish, start[0]):
                        self.check(start, wish, marks_row(book, wish, n), plainly.holds(web, wish))

    def test_places_that_the_start_has_not(self):
        # After a round 2 is a place of the web, but never one of the start.
        for word in ("far", "apart"):
            for p, q in ((0, 2), (2, 0), (2, 3), (7, 1)):
                for mark in (1,):
                    self.check(TIE, (word, p, q, 1), (mark,), False)
                    self.check(TIE, ("not", (word, p, q, 1)), (mark,), True)
        self.check((3, ()), ("far", 0, 2, 12), (1,), True)
        self.check(ROW, ("apart", 0, 2, 1), (1,), True)
        self.check((2, ()), ("far", 0, 2, 12), (12,), False)

    def test_each_part_is_looked_at_by_itself(self):
        dice = random.Random(20)
        for _ in range(400):
            one, other = dice.choice(KINDS), dice.choice(KINDS)
            kinds = dice.randint(1, 3)
            start = thrown_web(dice, dice.randint(1, 4), dice.randint(0, 4), kinds)
            ones, _ = rows_of_marks(dice, one, kinds)
            others, _ = rows_of_marks(dice, other, kinds)
            mine, theirs = holds_by(start, one, ones), holds_by(start, other, others)
            row = tuple(zip(ones, others))
            self.check(start, ("and", one, other), row, mine and theirs)
            self.check(start, ("or", one, other), row, mine or theirs)
            self.check(start, ("not", ("or", ("not", one), other)), row, mine and not theirs)

    def test_more_marks_than_kinds(self):
        self.check(TIE, ("joined",), ("one",), True)
        self.check(TIE, ("joined",), ("one", "loose"), True)
        self.check(TIE, ("joined",), ("one", "loose", "two"), True)
        self.check((2, ((0, 1, 2),)), ("joined",), ("loose", "two", "one"), True)
        self.check((2, ((0, 1, 2),)), ("joined",), ("one", "one", "two"), False)

    def test_wrong_starts_and_wishes(self):
        for thing in NO_WEBS:
            self.assertEqual(raised(holds_by, thing, ("joined",), ("one",)), ("BadWeb", {"thing": thing}))
            self.assertEqual(raised(holds_by, thing, None, None), ("BadWeb", {"thing": thing}))
        for thing in NO_WISHES:
            self.assertEqual(raised(holds_by, TIE, thing, ("one",)), ("BadWish", {"thing": thing}))
            self.assertEqual(raised(holds_by, row=None, wish=thing, start=TIE), ("BadWish", {"thing": thing}))

    def test_wrong_rows(self):
        for wish in KINDS:
            mark = marks_told(wish)[0]
            for start, row in (
                    (TIE, ()), (FORKED, (mark,)), (TWICE, (mark, mark)), ((2, ((0, 1, 2),)), (mark, mark)), (TIE, mark), (TIE, [mark]),
                    (TIE, (mark,) * 4), (LONE, ()), (LONE, None), (LONE, {}), (TIE, ((mark,),)), (TIE, (mark, (mark,))), (TIE, (mark, None))):
                kinds = max([tie[2] + 1 for tie in start[1]], default=1)
                if not is_row_told(wish, row, range(kinds, 4)):
                    self.assertEqual(raised(holds_by, start, wish, row), ("BadMarks", {"thing": row}), (start, wish, row))
            for wrong in no_marks(wish):
                for row in ((wrong,), (mark, wrong), (wrong, mark), (mark, mark, wrong)):
                    for start in (LONE, TIE):
                        self.assertEqual(raised(holds_by, start, wish, row), ("BadMarks", {"thing": row}), (wish, row))


def rings(web):
    """All rings that meet all of three places or more, as lists of ties of other kinds than 2; no two ties have the same ends."""
    ties = {frozenset(tie[:2]): tie for tie in web[1] if tie[2] != 2}
    for rest in itertools.permutations(range(1, web[0])):
        order = (0,) + rest
        steps = [ties.get(frozenset(pair)) for pair in zip(order, order[1:] + order[:1])]
        if None not in steps:
            yield steps


def has_places_from(wish, end):
    """Whether a wish speaks of a place that is not below end."""
    if wish[0] in ("far", "apart"):
        return max(wish[1], wish[2]) >= end
    return any(has_places_from(part, end) for part in wish[1:] if isinstance(part, tuple))


def is_row_told(wish, row, lengths):
    """Whether a value is a tuple, of one of these lengths, of marks that a wish can have."""
    right = {exactly(mark) for mark in marks_told(wish)}
    return isinstance(row, tuple) and len(row) in lengths and all(exactly(mark) in right for mark in row)


def exactly(thing):
    """What tells values apart also where a bool is equal to an integer."""
    return repr(thing)


def no_marks(wish):
    """Values that are no marks of a wish: those of other ones, and some that are nearly marks."""
    right = {exactly(mark) for mark in marks_told(wish)}
    found = list(STRANGE) + [13, 12, 7, 6, "One", "ones", (True, False, True), (True, 0, 1), (True, 1, 0), (False, "tied"), (True, True)]
    for other in KINDS:
        found.extend(marks_told(other))
    found.extend([((0,), ()), ((0, 1), ()), ((), ()), ((1,), (0,)), ((0, 1), (1,)), ((), (0,)), ((1, 0),), ((), (1, 0)), ((2,),),
                  ((False,),), ((0,), (True,)), ((), (False, True)), ([0],), [()], (False, True, 0), (1, 1, 1), (0, True, False),
                  (True, True, True, True), (1, "always"), (True, "Always"), (True, 1), (1, 0), (0, 0), (False, 2, 0), (False, True, True),
                  [False, True], [True, "tied"], [True, 1, 1], ("one",), ((True, False),), -1, True, False])
    told = {}
    for thing in found:
        if exactly(thing) not in right:
            told[exactly(thing)] = thing
    return list(told.values())


if __name__ == "__main__":
    unittest.main()
