import itertools
import random
import unittest

from manydeep.growthwords import are_equal_rows, exchange_holds, fitting_row, judge_exchange, root_of
from manydeep.thick import eye_renaming, is_row
from tests.anyvalues import NO_WISHES, STRANGE, raised
from tests.mutants import is_exactly, some_mutants
from tests.test_thick import NO_ROWS
from tests.thickones import FIVE, LOZENGE, WHEEL, disguised, is_same, made, thick_ones

LETTERS = {"a": LOZENGE, "b": FIVE, "c": WHEEL}


def spelt(word, dice=None):
    """The row of the growths that letters stand for, perhaps disguised."""
    return tuple(LETTERS[letter] if dice is None else disguised(LETTERS[letter], dice) for letter in word)


def words_up_to(length, letters="ab"):
    return ["".join(word) for many in range(1, length + 1) for word in itertools.product(letters, repeat=many)]


def word_of(row):
    """The letters for a row, each growth being the same to the eye as that of its letter."""
    return "".join(next((letter for letter in LETTERS if is_same(LETTERS[letter], growth)), "?") for growth in row)


def root_of_word(word):
    return next((word[:many], len(word) // many) for many in range(1, len(word) + 1) if len(word) % many == 0 and word[:many] * (len(word) // many) == word)


def is_right(one, other, thing, row_check=is_row):
    """What 14.2 says of certificates, for two words."""
    if not isinstance(thing, tuple):
        return False
    if len(thing) == 2 and is_exactly(thing[0], "apart"):
        differ = [at for at in range(len(one + other)) if (one + other)[at] != (other + one)[at]]
        return bool(differ) and is_exactly(thing[1], differ[0])
    if len(thing) != 4 or not is_exactly(thing[0], "powers") or not row_check(thing[1]):
        return False
    if any(type(e) is not int or not 1 <= e <= 100 for e in thing[2:]):
        return False
    root = word_of(thing[1])
    return "?" not in root and root * thing[2] == one and root * thing[3] == other


class Words(unittest.TestCase):
    """are_equal_rows, root_of, judge_exchange, exchange_holds, fitting_row [14.1 to 14.3]."""

    def test_examples(self):
        self.assertEqual(
            [root_of((LOZENGE, LOZENGE)) == ((LOZENGE,), 2), judge_exchange((LOZENGE,), (FIVE,)),
             exchange_holds((LOZENGE,), (LOZENGE, LOZENGE), ('powers', (LOZENGE,), 1, 2)),
             fitting_row((LOZENGE, FIVE), (FIVE, LOZENGE)) == (LOZENGE,), are_equal_rows((LOZENGE,), (FIVE,))], [True, ('apart', 0), True, True, False])

    def test_equal_rows(self):
        dice = random.Random(101)
        for one, other in itertools.product(words_up_to(3, "abc"), repeat=2):
            self.assertIs(are_equal_rows(spelt(one, dice), spelt(other)), one == other)
        self.assertIs(are_equal_rows(other=spelt("ab" * 6, dice), one=spelt("ab" * 6, dice)), True)
        self.assertIs(are_equal_rows(spelt("ab" * 6, dice), spelt("ab" * 5 + "ba", dice)), False)
        for one, other in itertools.combinations(thick_ones(), 2):
            self.assertIs(are_equal_rows((one,), (other,)), False)

    def test_roots(self):
        dice = random.Random(102)
        for word in words_up_to(5) + ["a" * 12, "ab" * 6, "abc" * 4, "aabaab", "ababab" * 2, "aaabaaab", "abaababaabab", "aaaaab" * 2]:
            root, exponent = root_of_word(word)
            row = spelt(word, dice)
            self.assertEqual(root_of(row), (row[:len(root)], exponent), word)
            self.assertEqual(root_of(row=row), (row[:len(root)], exponent), word)

    def test_exchanges(self):
        dice = random.Random(103)
        words = words_up_to(4) + ["a" * 12, "ab" * 6, "aab" * 3, "abaab"]
        for one, other in dice.sample(list(itertools.product(words, repeat=2)), 500) + [("ab" * 6, "ab" * 3), ("a" * 12, "a" * 8), ("aab" * 3, "aab" * 4)]:
            mine, others = spelt(one, dice), spelt(other, dice)
            told = judge_exchange(mine, others)
            self.assertEqual(told, judge_exchange(other=others, one=mine))
            self.assertEqual(told[0], "powers" if one + other == other + one else "apart", (one, other))
            self.assertTrue(is_right(one, other, told), (one, other, told))
            self.assertIs(exchange_holds(mine, others, told), True)
            self.assertIs(exchange_holds(thing=told, other=others, one=mine), True)
            for i in range(-1, 5):
                self.assertIs(exchange_holds(mine, others, ("apart", i)), is_right(one, other, ("apart", i)), (one, other, i))

    def test_roots_of_exchanges(self):
        dice = random.Random(104)
        for one, other in (("ab", "abab"), ("aaaa", "aa"), ("aabaab", "aab"), ("a", "a"), ("ab", "ba"), ("abab", "ababab"), ("aaaa", "aaaaaa"), ("a", "b")):
            mine, others = spelt(one, dice), spelt(other, dice)
            for root in words_up_to(3) + ["abab", "aaaa"]:
                for e in range(5):
                    for f in range(5):
                        thing = ("powers", spelt(root, dice), e, f)
                        self.assertIs(exchange_holds(mine, others, thing), is_right(one, other, thing), (one, other, root, e, f))
            for e in (True, "1", None, (1,), -1, 10 ** 99):
                self.assertIs(exchange_holds(mine, mine, ("powers", mine, e, 1)), False)
                self.assertIs(exchange_holds(mine, mine, ("powers", mine, 1, e)), False)
            self.assertIs(exchange_holds(mine, mine, ("powers", spelt(one, dice), 1, 1)), True)

    def test_mutants(self):
        dice = random.Random(105)
        for one, other in (("a", "aa"), ("a", "b"), ("ab", "ab"), ("aba", "ab"), ("ca", "caca")):
            mine, others = spelt(one), spelt(other)
            for thing in some_mutants(judge_exchange(mine, others), dice, 120):
                self.assertIs(exchange_holds(mine, others, thing), is_right(one, other, thing), (one, other, thing))

    def test_what_fits_between(self):
        dice = random.Random(106)
        words = words_up_to(5)
        pairs = dice.sample(list(itertools.product(words, repeat=2)), 400)
        for word in words + ["ab" * 6, "aab" * 4, "abaababaabab", "a" * 12]:
            turn = dice.randrange(len(word))
            pairs.append((word, word[turn:] + word[:turn]))
        for one, other in pairs:
            found = [one[:at] for at in range(len(one)) if one + one[:at] == one[:at] + other]
            row = spelt(one, dice)
            told = fitting_row(row, spelt(other, dice))
            self.assertEqual(told, fitting_row(other=spelt(other, dice), one=row))
            self.assertEqual(told, row[:len(found[0])] if found else None, (one, other))
            if told is not None:
                # It is the shortest row of all, not only of the beginnings.
                for x in [""] + words_up_to(len(told)):
                    self.assertTrue(one + x != x + other or len(x) >= len(told))
        self.assertEqual(fitting_row(spelt("ab"), spelt("ab")), ())
        self.assertEqual(fitting_row(spelt("aab"), spelt("aba")), spelt("a"))
        self.assertEqual(fitting_row(spelt("aab"), spelt("abb")), None)
        self.assertEqual(fitting_row(spelt("ab"), spelt("abab")), None)

    def test_products(self):
        for one, other in list(itertools.product("abc", repeat=2)) + [("a", "aa"), ("aa", "a")]:
            same = eye_renaming(made(spelt(one + other)), made(spelt(other + one))) is not None
            self.assertEqual(judge_exchange(spelt(one), spelt(other))[0] == "powers", same, (one, other))

    def test_any_value(self):
        for thing in STRANGE + NO_WISHES + (("powers", (), 1, 1), ("powers", ((10 ** 99, ()),), 1, 1), ("powers", None, 1, 1), ("powers", LOZENGE, 1, 1)):
            self.assertIs(exchange_holds((LOZENGE,), (LOZENGE,), thing), False, thing)
            self.assertIs(exchange_holds((LOZENGE,), (FIVE,), thing), False, thing)

    def test_wrong_arguments(self):
        for thing in NO_ROWS + ((),):
            self.assertEqual(raised(root_of, thing), ("BadRow", {"thing": thing}))
            for function, rest in ((are_equal_rows, ()), (judge_exchange, ()), (exchange_holds, (None,)), (fitting_row, ())):
                self.assertEqual(raised(function, thing, None, *rest), ("BadRow", {"thing": thing}))
                self.assertEqual(raised(function, (LOZENGE, FIVE), thing, *rest), ("BadRow", {"thing": thing}))


if __name__ == "__main__":
    unittest.main()
