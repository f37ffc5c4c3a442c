import copy
import random
import unittest

from manydeep.calendars import always_holds, calendar, first_time, judge_always
from manydeep.errors import GardenError
from manydeep.rounds import book_power, grown, one_round
from manydeep.texts import garden_text
from manydeep.yards import Yard, read_yard
from tests.anyvalues import (BARE, FORKED, LONE, NO_GARDENS, NO_GROWTHS, NO_INTEGERS, NO_WEBS, NO_WISHES, ROW, STRANGE,
                             TIE, TWICE, raised)
from tests.assorted import GARDENS, LONG, TRIANGLE, thrown_garden, thrown_gardens, thrown_web, thrown_wish
from tests.mutants import is_exactly, some_mutants

LENGTHS = {"start": 2, "growth": 3, "kind": 2, "drop": 1, "turn": 2, "tie": 3, "cut": 3, "grow": 1, "power": 2, "promise": 2, "free": 2}
GARDEN = (TIE, (ROW,))
TIE_OF_ONE = (2, ((0, 1, 1),))


class Wrong(Exception):
    """What a change raises, in the plain account of yards: a name and attributes."""


def is_plain_web(thing, least, kinds):
    if not (isinstance(thing, tuple) and len(thing) == 2 and type(thing[0]) is int and thing[0] >= least and isinstance(thing[1], tuple)):
        return False
    if not all(is_plain_tie(tie, thing[0], kinds) for tie in thing[1]):
        return False
    return list(thing[1]) == sorted(thing[1])


def is_plain_tie(tie, places, kinds):
    if not (isinstance(tie, tuple) and len(tie) == 3 and all(type(item) is int for item in tie)):
        return False
    return 0 <= tie[0] < places and 0 <= tie[1] < places and tie[0] != tie[1] and 0 <= tie[2] < kinds


def is_below(thing, end):
    return type(thing) is int and 0 <= thing < end


def done(garden, promises, change):
    """The garden and the promises behind a change, as 16.4 tells them; raises Wrong."""
    if not (isinstance(change, tuple) and change and isinstance(change[0], str) and LENGTHS.get(change[0]) == len(change)):
        raise Wrong("BadChange", {"at": 0})
    word, start, book = change[0], garden[0], list(garden[1])
    if word == "start":
        if not is_plain_web(change[1], 1, len(book)):
            raise Wrong("BadWeb", {"thing": change[1]})
        start = change[1]
    elif word == "growth":
        if not is_below(change[1], len(book)):
            raise Wrong("BadKind", {"thing": change[1]})
        if not is_plain_web(change[2], 2, len(book)):
            raise Wrong("BadGrowth", {"thing": change[2]})
        book[change[1]] = change[2]
    elif word == "kind":
        if not is_plain_web(change[1], 2, min(3, len(book) + 1)):
            raise Wrong("BadGrowth", {"thing": change[1]})
        if len(book) == 3:
            raise Wrong("Full", {})
        book.append(change[1])
    elif word == "drop":
        if len(book) == 1:
            raise Wrong("LastKind", {})
        gone = book.pop()
        if any(tie[2] == len(book) for web in [start] + book for tie in web[1]):
            raise Wrong("InUse", {"c": len(book)})
        assert gone
    elif word == "turn":
        if not is_below(change[1], len(book)):
            raise Wrong("BadKind", {"thing": change[1]})
        places, ties = book[change[1]]
        names = {0: 1, 1: 0}
        book[change[1]] = (places, tuple(sorted((names.get(a, a), names.get(b, b), c) for a, b, c in ties)))
    elif word in ("tie", "cut"):
        _, where, item = change
        if not (isinstance(where, str) and where == "start") and not is_below(where, len(book)):
            raise Wrong("BadKind", {"thing": where})
        places, ties = start if where == "start" else book[where]
        if word == "tie" and not is_plain_tie(item, places, len(book)):
            raise Wrong("BadTie", {"thing": item})
        if word == "cut" and not is_below(item, len(ties)):
            raise Wrong("BadNumber", {"thing": item})
        web = (places, tuple(sorted(ties + (item,))) if word == "tie" else ties[:item] + ties[item + 1:])
        if where == "start":
            start = web
        else:
            book[where] = web
    elif word in ("grow", "power"):
        if word == "power" and not (type(change[1]) is int and change[1] >= 1):
            raise Wrong("BadNumber", {"thing": change[1]})
        try:
            if word == "grow":
                start = one_round(start, tuple(book))
            else:
                book = book_power(tuple(book), change[1])
        except GardenError as error:
            raise Wrong(type(error).__name__, vars(error))
    else:
        told = any(is_exactly(change[1], wish) for wish in promises)
        if word == "promise":
            if told or raised(calendar, GARDEN, change[1]) is not None:
                raise Wrong("BadWish", {"thing": change[1]})
            promises = promises + (change[1],)
        else:
            if not told:
                raise Wrong("BadWish", {"thing": change[1]})
            promises = tuple(wish for wish in promises if wish != change[1])
    return (start, tuple(book)), promises


def unkept(garden, promises):
    """What is raised if some promise fails, None if none does."""
    for wish in promises:
        n = first_time(garden, ("not", wish))
        if n is not None:
            return ("Unkept", {"wish": wish, "n": n})
    return None


class Plain:
    """A plain account of a yard: a list of gardens and promises, and where in it the yard is."""

    def __init__(self, garden):
        self.states, self.at = [(garden, ())], 0

    def outcome(self, changes, single=False):
        """The state behind a deal, or the error that it raises."""
        if not isinstance(changes, tuple):
            return ("BadChange", {"at": -1})
        garden, promises = self.states[self.at]
        for position, change in enumerate(changes):
            try:
                garden, promises = done(garden, promises, change)
            except Wrong as wrong:
                return wrong.args if single else ("BadChange", {"at": position})
        return unkept(garden, promises) or [(garden, promises)]

    def deal(self, changes, single=False):
        """Do a deal; the error that it raises, None if it is done."""
        outcome = self.outcome(changes, single)
        if isinstance(outcome, tuple):
            return outcome
        self.states = self.states[:self.at + 1] + outcome
        self.at += 1
        return None


def wish_words(wish):
    return [word for item in wish for word in (wish_words(item) if isinstance(item, tuple) else [str(item)])]


def yard_text(garden, promises):
    return "\n".join([garden_text(garden)] + ["promise " + " ".join(wish_words(wish)) for wish in promises])


def thrown_change(dice, garden, promises):
    """A change, thrown with dice, that is most often a right one."""
    kinds = len(garden[1])
    word = dice.choice(("start", "growth", "kind", "drop", "turn", "tie", "tie", "cut", "grow", "power", "promise", "promise", "promise", "free"))
    where = dice.choice(("start",) + tuple(range(kinds)) * 2 + (kinds,))
    web = garden[0] if where == "start" else garden[1][where] if where < kinds else TIE
    if word == "start":
        return (word, thrown_web(dice, dice.randint(1, 4), dice.randint(0, 4), kinds))
    if word == "growth":
        return (word, dice.randint(0, kinds), thrown_web(dice, dice.randint(2, 4), dice.randint(0, 4), dice.choice((kinds, kinds, 3))))
    if word == "kind":
        return (word, thrown_web(dice, dice.randint(2, 4), dice.randint(0, 4), min(3, kinds + 1)))
    if word in ("drop", "grow"):
        return (word,)
    if word == "turn":
        return (word, dice.randint(0, kinds))
    if word == "tie":
        return (word, where, (dice.randrange(web[0]), dice.randrange(web[0]), dice.randrange(kinds)))
    if word == "cut":
        return (word, where, dice.randrange(len(web[1]) + 1))
    if word == "power":
        return (word, dice.choice((0, 1, 1, 2, 2, 3)))
    if word == "promise" or not promises:
        return (word, dice.choice((thrown_wish(dice, 3, 2), ("or", ("sided",), ("not", ("sided",))), ("hues", 5), ("far", 0, 1, 1), ("not", ("far", 0, 1, 12)))))
    return (word, dice.choice(promises))


def is_small(garden):
    return garden[0][0] <= 8 and len(garden[0][1]) <= 12 and all(growth[0] <= 6 and len(growth[1]) <= 9 for growth in garden[1])


class Deals(unittest.TestCase):
    """Yard: garden, promises, deeds, change, deal, would, undo, redo, copied, equality and str [16.1 to 16.5]."""

    def check_state(self, yard, plain):
        garden, promises = plain.states[plain.at]
        self.assertEqual((yard.garden(), yard.promises(), yard.deeds()), (garden, promises, plain.at))
        self.assertEqual(str(yard), yard_text(garden, promises))

    def test_examples(self):
        yard = Yard(((2, ((0, 1, 0),)), ((3, ((0, 2, 0), (2, 1, 0))),)))
        self.assertIs(yard.deal((('promise', ('sided',)), ('tie', 0, (0, 2, 0)))), None)
        self.assertEqual(
            [yard.garden(), yard.promises(), yard.deeds(), str(yard)],
            [((2, ((0, 1, 0),)), ((3, ((0, 2, 0), (0, 2, 0), (2, 1, 0))),)), (('sided',),), 1,
             'places 2\n0 1 0\ngrowth\nplaces 3\n0 2 0\n0 2 0\n2 1 0\npromise sided'])
        self.assertEqual([yard.would((('tie', 0, (0, 1, 0)),)), yard.would((('turn', 0),)), yard == read_yard(str(yard))], [False, True, True])
        self.assertEqual(raised(yard.change, ('tie', 0, (0, 1, 0))), ("Unkept", {"wish": ('sided',), "n": 1}))
        self.assertEqual(raised(yard.change, ('cut', 0, 3)), ("BadNumber", {"thing": 3}))
        self.assertEqual(raised(read_yard, 'places 2\n0 1 0\ngrowth\nplaces 2\n0 1 0\npromise not joined'), ("BadText", {"at": 6}))

    def test_against_a_plain_account(self):
        dice = random.Random(121)
        outcomes = {}
        for _ in range(300):
            garden = thrown_garden(dice, 3, 3)
            yard, plain = Yard(garden), Plain(garden)
            copies = []
            for _ in range(30):
                self.step(dice, yard, plain, outcomes)
                self.check_state(yard, plain)
                if dice.random() < 0.1:
                    copies.append((yard.copied(), copy.deepcopy(plain)))
                    self.assertTrue(yard == copies[-1][0])
                if copies and dice.random() < 0.2:
                    yard, plain = copies[dice.randrange(len(copies))]
                if not is_small(yard.garden()):
                    break
            for other, account in copies:
                self.check_state(other, account)
                while account.at > 0:
                    other.undo()
                    account.at -= 1
                    self.check_state(other, account)
                while account.at < len(account.states) - 1:
                    other.redo()
                    account.at += 1
                    self.check_state(other, account)
        for name in ("done", "BadKind", "BadGrowth", "Full", "LastKind", "InUse", "BadTie", "BadNumber", "BadWish", "Unkept", "BadChange"):
            self.assertGreater(outcomes.get(name, 0), 2, outcomes)

    def step(self, dice, yard, plain, outcomes):
        garden, promises = plain.states[plain.at]
        turn = dice.random()
        if turn < 0.12:
            self.assertEqual(raised(yard.undo), ("NothingToUndo", {}) if plain.at == 0 else None)
            plain.at = max(0, plain.at - 1)
        elif turn < 0.22:
            last = len(plain.states) - 1
            self.assertEqual(raised(yard.redo), ("NothingToRedo", {}) if plain.at == last else None)
            plain.at = min(last, plain.at + 1)
        else:
            changes = tuple(thrown_change(dice, garden, promises) for _ in range(1 if turn < 0.8 else dice.randint(0, 3)))
            outcome = plain.outcome(changes)
            self.assertIs(yard.would(changes), isinstance(outcome, list), changes)
            self.check_state(yard, plain)
            single = len(changes) == 1 and dice.random() < 0.8
            error = raised(yard.change, changes[0]) if single else raised(yard.deal, changes)
            self.assertEqual(error, plain.deal(changes, single), (garden, promises, changes))
            name = error[0] if error else "done"
            outcomes[name] = outcomes.get(name, 0) + 1

    def test_each_change(self):
        two = (FORKED, LONG)
        for garden, change, behind in (
                (GARDEN, ("start", LONE), (LONE, (ROW,))), (two, ("start", TIE_OF_ONE), (TIE_OF_ONE, LONG)), (two, ("growth", 1, ROW), (FORKED, (LONG[0], ROW))),
                (GARDEN, ("growth", 0, BARE), (TIE, (BARE,))), (GARDEN, ("kind", TIE_OF_ONE), (TIE, (ROW, TIE_OF_ONE))),
                (two, ("kind", (2, ((0, 1, 2),))), (FORKED, LONG + ((2, ((0, 1, 2),)),))), ((TIE, (ROW, TIE_OF_ONE)), ("drop",), GARDEN),
                (two, ("turn", 0), (FORKED, ((3, ((1, 2, 0), (2, 0, 1))), LONG[1]))), (two, ("tie", "start", (2, 1, 1)), ((3, FORKED[1] + ((2, 1, 1),)), LONG)),
                (two, ("tie", 1, (0, 1, 0)), (FORKED, (LONG[0], (2, ((0, 1, 0), (0, 1, 0)))))), (two, ("cut", "start", 0), ((3, ((0, 2, 1),)), LONG)),
                (two, ("cut", 0, 1), (FORKED, ((3, ((0, 2, 0),)), LONG[1]))), (two, ("grow",), (grown(two, 1), LONG)),
                (two, ("power", 3), (FORKED, book_power(LONG, 3))), (two, ("power", 1), two)):
            yard = Yard(garden)
            self.assertIs(yard.change(change), None)
            self.assertEqual((yard.garden(), yard.promises(), yard.deeds()), (behind, (), 1))
            yard.undo()
            self.assertEqual((yard.garden(), yard.deeds()), (garden, 0))
            yard.redo()
            self.assertEqual((yard.garden(), yard.deeds()), (behind, 1))
            self.assertIs(Yard(garden).deal((change,)), None)
            self.assertIs(Yard(garden).would((change,)), True)

    def wrong_changes(self):
        """Triples: a garden, a change and the error that it raises."""
        three = (TWICE, (TIE, FORKED, TWICE))
        for thing in NO_WEBS + (TIE_OF_ONE,):
            yield GARDEN, ("start", thing), ("BadWeb", {"thing": thing})
        for thing in NO_INTEGERS + (-1, 1, 10 ** 99, "start"):
            yield GARDEN, ("growth", thing, None), ("BadKind", {"thing": thing})
            yield GARDEN, ("turn", thing), ("BadKind", {"thing": thing})
            if thing != "start":
                yield GARDEN, ("tie", thing, None), ("BadKind", {"thing": thing})
                yield GARDEN, ("cut", thing, None), ("BadKind", {"thing": thing})
        for thing in NO_GROWTHS + (TIE_OF_ONE,):
            yield GARDEN, ("growth", 0, thing), ("BadGrowth", {"thing": thing})
            if thing != TIE_OF_ONE:
                yield GARDEN, ("kind", thing), ("BadGrowth", {"thing": thing})
                yield three, ("kind", thing), ("BadGrowth", {"thing": thing})
        yield GARDEN, ("kind", (2, ((0, 1, 2),))), ("BadGrowth", {"thing": (2, ((0, 1, 2),))})
        yield three, ("kind", (2, ((0, 1, 2),))), ("Full", {})
        yield GARDEN, ("drop",), ("LastKind", {})
        yield three, ("drop",), ("InUse", {"c": 2})
        yield (TIE, (TIE, TIE_OF_ONE, (2, ((0, 1, 2),)))), ("drop",), None
        yield (TIE, (TIE, (2, ((0, 1, 2),)), TIE)), ("drop",), ("InUse", {"c": 2})
        yield (TIE_OF_ONE, (TIE, TIE)), ("drop",), ("InUse", {"c": 1})
        for thing in STRANGE + ((0, 1, 1), (0, 2, 0), (2, 0, 0), (0, 0, 0), (-1, 0, 0), (0, 1, -1), (0, True, 0), (0, 1, False), [0, 1, 0], (0, 1), (0, 1, 0, 0)):
            yield GARDEN, ("tie", "start", thing), ("BadTie", {"thing": thing})
        yield GARDEN, ("tie", 0, (0, 3, 0)), ("BadTie", {"thing": (0, 3, 0)})
        yield GARDEN, ("tie", 0, (0, 2, 0)), None
        for thing in NO_INTEGERS + (-1, 1, 2, 10 ** 99):
            yield GARDEN, ("cut", "start", thing), ("BadNumber", {"thing": thing})
        yield GARDEN, ("cut", 0, 2), ("BadNumber", {"thing": 2})
        for thing in NO_INTEGERS + (0, -1, -(10 ** 99)):
            yield GARDEN, ("power", thing), ("BadNumber", {"thing": thing})
        for thing in NO_WISHES + (("even",),):
            if thing != ("even",):
                yield GARDEN, ("promise", thing), ("BadWish", {"thing": thing})
            yield GARDEN, ("free", thing), ("BadWish", {"thing": thing})
        yield ((7, ((0, 1, 0),) * 10), (((6, ()),))), ("turn", 0), None
        wide = ((401, ()), (TIE,))
        yield wide, ("grow",), ("TooMany", {"most": 400})
        yield (TIE, ((2, ((0, 1, 0),) * 9),)), ("power", 3), ("TooMany", {"most": 600})
        yield (TIE, ((6, ((0, 2, 0),) * 5),)), ("power", 60), ("TooMany", {"most": 400})

    def test_wrong_changes(self):
        for garden, change, error in self.wrong_changes():
            yard = Yard(garden)
            before = str(yard)
            self.assertEqual(raised(yard.change, copy.deepcopy(change)), error, change)
            self.assertEqual(raised(Yard(garden).deal, (change,)), error and ("BadChange", {"at": 0}))
            self.assertEqual(raised(Yard(garden).deal, (("turn", 0), ("turn", 0), change, None)), ("BadChange", {"at": 3 if error is None else 2}))
            self.assertIs(Yard(garden).would((change,)), error is None)
            if error is not None:
                self.assertEqual((str(yard), yard.deeds()), (before, 0))

    def test_no_changes(self):
        right = (("start", TIE), ("growth", 0, TIE), ("kind", TIE), ("drop",), ("turn", 0), ("tie", 0, (0, 1, 0)), ("cut", 0, 0), ("grow",), ("power", 2),
                 ("promise", ("sided",)), ("free", ("sided",)))
        wrong = STRANGE + (("start",), ("Start", TIE), ("grown",), (("start",), TIE), (0, TIE), (True,), ("",), "grow", ["grow"], ("grow ",), {"grow": 1})
        for change in right:
            wrong += (change + (0,), change[:-1], list(change), change[:1] + change, (change,), dict(enumerate(change)))
        for thing in wrong:
            if thing not in ((), ("grow",), ("drop",)):
                self.assertEqual(raised(Yard(GARDEN).change, thing), ("BadChange", {"at": 0}), thing)
                self.assertEqual(raised(Yard(GARDEN).deal, (("turn", 0), thing)), ("BadChange", {"at": 1}), thing)
                self.assertIs(Yard(GARDEN).would((thing,)), False)
        self.assertEqual(raised(Yard(GARDEN).change, ()), ("BadChange", {"at": 0}))
        for thing in STRANGE + ([("turn", 0)], "turn", {("turn", 0): 1}, None, 0, True):
            if not isinstance(thing, tuple):
                self.assertEqual(raised(Yard(GARDEN).deal, thing), ("BadChange", {"at": -1}), thing)
                self.assertIs(Yard(GARDEN).would(thing), False)

    def test_mutants_of_deals(self):
        dice = random.Random(122)
        deal = (("promise", ("sided",)), ("tie", 0, (0, 2, 0)), ("kind", TIE), ("turn", 0), ("growth", 1, ROW), ("cut", 0, 0), ("drop",), ("power", 2), ("start", TIE),
                ("free", ("sided",)), ("grow",))
        self.assertIs(Yard(GARDEN).would(deal), True)
        for thing in some_mutants(deal, dice, 400):
            yard, plain = Yard(GARDEN), Plain(GARDEN)
            outcome = plain.outcome(thing)
            self.assertIs(yard.would(thing), isinstance(outcome, list), thing)
            self.assertEqual(raised(yard.deal, thing), None if isinstance(outcome, list) else outcome, thing)
            plain.deal(thing)
            self.check_state(yard, plain)

    def test_any_value_as_a_deal(self):
        great = ((10 ** 99, ()),)
        yard = Yard(GARDEN)
        self.assertIs(yard.would((("start", great[0]),)), True)
        self.assertIs(yard.would((("start", great[0]), ("grow",))), False)
        self.assertIs(yard.would((("growth", 0, great[0]), ("turn", 0))), True)
        self.assertIs(yard.would((("power", 10 ** 99),)), False)
        self.assertIs(yard.would((("growth", 0, (2, ((1, 0, 0),))), ("power", 10 ** 99))), True)
        turning = Yard((TIE, ((2, ((1, 0, 0),)),)))
        turning.change(("power", 10 ** 99))
        self.assertEqual(turning.garden(), (TIE, (TIE,)) if (10 ** 99) % 2 == 0 else (TIE, ((2, ((1, 0, 0),)),)))
        self.assertEqual(yard.deeds(), 0)

    def test_deals_of_none_and_of_twelve(self):
        yard = Yard(GARDEN)
        self.assertIs(yard.deal(()), None)
        self.assertEqual(yard.deeds(), 1)
        yard.deal((("turn", 0),) * 12)
        self.assertEqual((yard.garden(), yard.deeds()), (GARDEN, 2))
        yard.undo()
        yard.undo()
        self.assertEqual(raised(yard.undo), ("NothingToUndo", {}))

    def test_promises_are_looked_at_behind_the_last_change(self):
        yard = Yard(GARDEN)
        yard.change(("promise", ("sided",)))
        # In between the promise would fail.
        yard.deal((("tie", 0, (0, 1, 0)), ("cut", 0, 0)))
        self.assertEqual(yard.garden()[1], (ROW,))
        self.assertEqual(raised(yard.deal, (("cut", 0, 0), ("tie", 0, (0, 1, 0)), ("tie", 0, (0, 2, 0)))), ("Unkept", {"wish": ("sided",), "n": 1}))
        # A promise that is freed need not hold; one that is made anew stands last.
        yard.deal((("tie", 0, (0, 1, 0)), ("free", ("sided",))))
        self.assertEqual(yard.promises(), ())
        yard.deal((("promise", ("joined",)), ("promise", ("not", ("sided",))), ("free", ("joined",)), ("promise", ("joined",)), ("start", TRIANGLE)))
        self.assertEqual(yard.promises(), (("not", ("sided",)), ("joined",)))

    def test_the_first_promise_and_the_least_n(self):
        yard = Yard((TIE, (TIE,)))
        for wish in (("far", 0, 1, 1), ("sided",), ("paired",), ("number", 0, 2, 1), ("joined",)):
            yard.change(("promise", wish))
        for change, wish, n in (
                (("growth", 0, ROW), ("paired",), 1), (("growth", 0, BARE), ("paired",), 1), (("start", TRIANGLE), ("sided",), 0),
                (("growth", 0, (2, ((0, 1, 0), (0, 1, 0)))), ("number", 0, 2, 1), 1), (("start", (3, ((0, 1, 0),))), ("paired",), 0),
                (("start", (4, ((0, 1, 0), (2, 3, 0)))), ("number", 0, 2, 1), 0), (("start", (4, ((0, 1, 0), (2, 3, 0), (2, 3, 0)))), ("joined",), 0),
                (("start", LONE), ("far", 0, 1, 1), 0)):
            self.assertEqual(raised(yard.change, change), ("Unkept", {"wish": wish, "n": n}), change)
            self.assertEqual(raised(yard.deal, (("turn", 0), change)), ("Unkept", {"wish": wish, "n": n}), change)
            self.assertIs(yard.would((change,)), False)
        self.assertEqual(yard.deeds(), 5)
        self.assertEqual(raised(yard.change, ("promise", ("paired",))), ("BadWish", {"thing": ("paired",)}))
        self.assertEqual(raised(yard.change, ("promise", ("even",))), ("Unkept", {"wish": ("even",), "n": 0}))

    def test_far_behind_growing(self):
        yard = Yard(GARDEN)
        wish = ("not", ("far", 0, 2, 1))
        yard.change(("promise", wish))
        # The start has a place 2 from then on.
        self.assertEqual(raised(yard.change, ("grow",)), ("Unkept", {"wish": wish, "n": 0}))
        self.assertEqual(raised(yard.deal, (("grow",), ("free", wish))), None)
        self.assertEqual(yard.garden()[0], ROW)

    def test_bools_in_wishes(self):
        yard = Yard((TIE, (TIE,)))
        yard.change(("promise", ("hues", 2)))
        yard.change(("promise", ("far", 0, 1, 1)))
        for wish in (("far", False, True, 1), ("far", 0, 1, True), ["hues", 2], ("far", 0, True, 1)):
            self.assertEqual(raised(yard.change, ("free", wish)), ("BadWish", {"thing": wish}))
            self.assertEqual(raised(yard.change, ("promise", wish)), ("BadWish", {"thing": wish}))

    def test_undo_and_redo(self):
        yard = Yard(GARDEN)
        texts = [str(yard)]
        for change in (("turn", 0), ("tie", 0, (0, 2, 0)), ("promise", ("sided",)), ("kind", TIE), ("free", ("sided",)), ("grow",)):
            yard.change(change)
            texts.append(str(yard))
        for text in texts[-2::-1]:
            self.assertIs(yard.undo(), None)
            self.assertEqual(str(yard), text)
        self.assertEqual(raised(yard.undo), ("NothingToUndo", {}))
        for text in texts[1:]:
            self.assertIs(yard.redo(), None)
            self.assertEqual(str(yard), text)
        self.assertEqual(raised(yard.redo), ("NothingToRedo", {}))
        yard.undo()
        yard.undo()
        # What fails is no deed: it ends nothing.
        self.assertEqual(raised(yard.change, ("cut", 0, 9)), ("BadNumber", {"thing": 9}))
        self.assertEqual(raised(yard.deal, (("turn", 0), None)), ("BadChange", {"at": 1}))
        self.assertEqual(raised(yard.change, ("tie", 0, (0, 1, 0))), ("Unkept", {"wish": ("sided",), "n": 1}))
        self.assertIs(yard.would((("turn", 0),)), True)
        yard.redo()
        yard.undo()
        # A deed between undo and redo, also if it changes nothing.
        yard.deal(())
        self.assertEqual(raised(yard.redo), ("NothingToRedo", {}))
        self.assertEqual(yard.deeds(), 5)

    def test_copies(self):
        yard = Yard(GARDEN)
        first = yard.copied()
        yard.change(("promise", ("sided",)))
        yard.change(("tie", 0, (0, 2, 0)))
        yard.undo()
        second = yard.copied()
        self.assertTrue(second == yard)
        self.assertEqual((first.deeds(), second.deeds()), (0, 1))
        second.redo()
        self.assertEqual((second.deeds(), yard.deeds()), (2, 1))
        self.assertFalse(second == yard)
        yard.change(("grow",))
        second.undo()
        second.undo()
        self.assertTrue(second == first)
        self.assertEqual(raised(first.undo), ("NothingToUndo", {}))
        second.redo()
        second.redo()
        self.assertEqual(raised(yard.redo), ("NothingToRedo", {}))
        self.assertEqual((yard.garden(), second.garden()), (((3, ROW[1]), (ROW,)), (TIE, ((3, ((0, 2, 0),) + ROW[1]),))))
        self.assertIsInstance(second, Yard)

    def test_equality(self):
        one, other = Yard(GARDEN), Yard(GARDEN)
        self.assertTrue(one == other and not one != other)
        one.change(("turn", 0))
        self.assertTrue(one != other and not one == other)
        one.undo()
        self.assertTrue(one == other)
        one.change(("promise", ("sided",)))
        one.change(("promise", ("joined",)))
        other.deal((("promise", ("joined",)), ("promise", ("sided",))))
        self.assertFalse(one == other)
        for thing in STRANGE + (str(one), one.garden(), (one,), [one]):
            self.assertFalse(one == thing)
            self.assertTrue(one != thing)
            self.assertFalse(thing == one)
        self.assertTrue((one, [1, {2: one}]) == (one.copied(), [1, {2: one.copied()}]))

    def test_judged(self):
        dice = random.Random(123)
        for garden in list(GARDENS) + thrown_gardens(30, 124):
            yard = Yard(garden)
            for _ in range(5):
                wish = thrown_wish(dice, 3, 2)
                told = yard.judged(wish)
                self.assertEqual(told, judge_always(garden, wish))
                self.assertEqual(told, yard.judged(wish=wish))
                self.assertIs(always_holds(garden, wish, told), True)
        for thing in NO_WISHES:
            self.assertEqual(raised(Yard(GARDEN).judged, thing), ("BadWish", {"thing": thing}))
        yard = Yard(GARDEN)
        yard.change(("promise", ("sided",)))
        self.assertEqual(yard.judged(("sided",)), ("always", (("odd",), ("even",), ("even",))))

    def test_by_name_and_results(self):
        yard = Yard(garden=GARDEN)
        self.assertIs(yard.change(change=("turn", 0)), None)
        self.assertIs(yard.deal(changes=(("turn", 0),)), None)
        self.assertIs(yard.would(changes=(("turn", 0),)), True)
        self.assertIs(read_yard(text=str(yard)) == yard, True)
        self.assertEqual((yard.garden(), yard.promises(), yard.deeds()), (GARDEN, (), 2))
        for name in ("garden", "promises", "deeds", "judged", "change", "deal", "would", "undo", "redo", "copied", "__eq__", "__str__", "__init__"):
            self.assertIn(name, vars(Yard))

    def test_no_gardens(self):
        for thing in NO_GARDENS:
            self.assertEqual(raised(Yard, thing), ("BadGarden", {"thing": thing}))
            self.assertEqual(raised(Yard, garden=thing), ("BadGarden", {"thing": thing}))

    def test_arguments_stay(self):
        change = ("promise", ["sided", [1, {"a": [2]}]])
        kept = copy.deepcopy(change)
        error = None
        try:
            Yard(GARDEN).change(change)
        except GardenError as caught:
            error = caught
        self.assertIs(error.thing, change[1])
        self.assertEqual(change, kept)


class Texts(unittest.TestCase):
    """str and read_yard [16.2, 16.3]."""

    def test_there_and_back(self):
        dice = random.Random(125)
        for garden in list(GARDENS) + thrown_gardens(60, 126):
            yard = Yard(garden)
            for _ in range(8):
                wish = thrown_wish(dice, 3, dice.randint(0, 4))
                if len(yard.promises()) < 6 and yard.would((("promise", wish),)):
                    yard.change(("promise", wish))
            found = read_yard(str(yard))
            self.assertTrue(found == yard)
            self.assertEqual((found.garden(), found.promises(), found.deeds()), (yard.garden(), yard.promises(), 0))
            self.assertEqual(str(yard), yard_text(garden, yard.promises()))
            self.assertEqual(raised(found.undo), ("NothingToUndo", {}))
            self.assertEqual(raised(found.redo), ("NothingToRedo", {}))

    def test_words(self):
        yard = Yard((TIE, (TIE,)))
        for wish, words in (
                (("joined",), "joined"), (("hues", 2), "hues 2"), (("number", 0, 12, 1), "number 0 12 1"), (("far", 1, 0, 1), "far 1 0 1"),
                (("not", ("far", 0, 10 ** 30, 12)), "not far 0 " + str(10 ** 30) + " 12"), (("or", ("and", ("sided",), ("hues", 3)), ("not", ("even",))),
                                                                                           "or and sided hues 3 not even"),
                (("and", ("paired",), ("or", ("even",), ("apart", 0, 1, 1))), "and paired or even apart 0 1 1")):
            other = yard.copied()
            other.change(("promise", wish))
            self.assertEqual(str(other).split("\n")[-1], "promise " + words)
            self.assertEqual(read_yard(str(other)).promises(), (wish,))

    def test_lines_that_are_wrong(self):
        head = "places 2\n0 1 0\ngrowth\nplaces 2\n0 1 0"
        for rest, at in (
                ("", None), ("\npromise sided", None), ("\npromise sided\npromise joined", None), ("\npromise sided\npromise sided", 7), ("\n", 6), ("\npromise", 6),
                ("\npromise ", 6), ("\npromise  sided", 6), ("\npromise sided ", 6), ("\n promise sided", 6), ("\nPromise sided", 6), ("\npromise Sided", 6),
                ("\npromise sided\n", 7), ("\nsided", 6), ("\npromise not sided", 6), ("\npromise even", 6), ("\npromise not even", None), ("\npromise not", 6),
                ("\npromise and sided", 6), ("\npromise and sided joined paired", 6), ("\npromise sided joined", 6), ("\npromise hues", 6), ("\npromise hues 2", None),
                ("\npromise hues 1", 6), ("\npromise hues 6", 6), ("\npromise hues 02", 6), ("\npromise hues +2", 6), ("\npromise hues 2 2", 6), ("\npromise hues two", 6),
                ("\npromise 2", 6), ("\npromise 2 hues", 6), ("\npromise far 0 1 1", None), ("\npromise far 0 1 2", 6), ("\npromise far 0 0 1", 6), ("\npromise far 0 1", 6),
                ("\npromise far -1 1 1", 6), ("\npromise number 0 2 1", None), ("\npromise number 0 2 2", 6), ("\npromise number 0 2", 6), ("\npromise not far 0 7 1", None),
                ("\npromise not not sided\npromise sided\npromise not not sided", 8), ("\npromise sided\npromise nothing\npromise joined", 7), ("\ngrowth", 7),
                ("\ngrowth\nplaces 2\n0 1 1\npromise sided", None), ("\ngrowth\nplaces 2\n0 1 2\npromise sided", 9), ("\n0 1 0\npromise sided", None),
                ("\npromise sided\n0 1 0", 7), ("\npromise sided\ngrowth", 7), ("\npromise hues sided", 6), ("\npromise not 2", 6), ("\npromise and sided 2", 6)):
            if at is None:
                self.assertEqual(str(read_yard(head + rest)), head + rest)
            else:
                self.assertEqual(raised(read_yard, head + rest), ("BadText", {"at": at}), rest)
        for text, at in (("", 1), ("places 2", 2), ("places 2\n0 1 0\ngrowth", 4), ("places 2\n0 1 1\ngrowth\nplaces 2\npromise sided", 5), ("promise sided", 1),
                         ("places 2\n0 1 0\npromise sided", 3), ("places 1\ngrowth\nplaces 1\npromise sided", 3)):
            self.assertEqual(raised(read_yard, text), ("BadText", {"at": at}), text)

    def test_changed_texts(self):
        dice = random.Random(127)
        yard = Yard((TIE, LONG))
        for wish in (("sided",), ("or", ("joined",), ("hues", 3)), ("not", ("far", 0, 1, 2)), ("far", 0, 1, 1)):
            if yard.would((("promise", wish),)):
                yard.change(("promise", wish))
        text = str(yard)
        for _ in range(1500):
            at = dice.randrange(len(text))
            changed = dice.choice((text[:at] + text[at + 1:], text[:at] + dice.choice("0123 \npromise") + text[at:], text[:at] + dice.choice("012 \na") + text[at + 1:]))
            lines = changed.split("\n")
            error = raised(read_yard, changed)
            if error is None:
                self.assertEqual(str(read_yard(changed)), changed)
                continue
            self.assertEqual(error[0], "BadText")
            wrong = error[1]["at"]
            # The lines ahead can be gone on with, and so is the wrong one not.
            self.assertTrue(1 <= wrong <= len(lines) + 1)
            for many in range(1, wrong):
                other = raised(read_yard, "\n".join(lines[:many]))
                self.assertTrue(other is None or other[1]["at"] == many + 1, (changed, many, other))
            if wrong <= len(lines):
                other = raised(read_yard, "\n".join(lines[:wrong]))
                self.assertEqual(other, ("BadText", {"at": wrong}))

    def test_no_texts(self):
        for thing in STRANGE + (Yard(GARDEN), [str(Yard(GARDEN))]):
            if not isinstance(thing, str):
                self.assertEqual(raised(read_yard, thing), ("BadText", {"at": 0}))
                self.assertEqual(raised(read_yard, text=thing), ("BadText", {"at": 0}))

    def test_deep_wishes(self):
        head = "places 2\n0 1 0\ngrowth\nplaces 2\n0 1 0\npromise "
        for many in (100, 400):
            text = head + "not " * (2 * (many // 2)) + "sided"
            self.assertEqual(str(read_yard(text)), text)
            self.assertEqual(raised(read_yard, head + "not " * (2 * (many // 2) + 1) + "sided"), ("BadText", {"at": 6}))
            self.assertEqual(raised(read_yard, head + "and " * many + "sided"), ("BadText", {"at": 6}))


if __name__ == "__main__":
    unittest.main()
