"""Point 35: verdicts, their order and their operators."""

import itertools
import random
import unittest

import plainway
from asserts import Asserts

from wrongshown.errors import InvalidKind
from wrongshown.verdicts import Verdict

KINDS = plainway.KINDS
NO_KINDS = ["", "Stale", "stale ", "wrong", "rule", "near", "unshownx", "x" * 40]


def in_order(pairs):
    """A set of pairs as a list, in a second way."""
    return sorted(pairs, key=lambda pair: (KINDS.index(pair[0]), pair[1]))


def some_sets(dice):
    """Sets of pairs of every size, with fields of any form and of none."""
    every = list(itertools.product(KINDS, ["", "a", "b", "zz", "not a name", "A", "~", "off"]))
    sets = [set(), set(every), {("stuck", "")}]
    for _ in range(25):
        sets.append(set(dice.sample(every, dice.randrange(1, 30))))
    return sets


class VerdictTests(Asserts):
    def test_the_pairs_stand_by_kind_and_then_by_field(self):
        pairs = [("full", "b"), ("stale", "b"), ("early", ""), ("stale", "a"), ("unshown", "z"),
                 ("stuck", ""), ("elder", "m"), ("sent", "a"), ("stale", "")]
        wanted = [("unshown", "z"), ("stale", ""), ("stale", "a"), ("stale", "b"), ("elder", "m"),
                  ("sent", "a"), ("early", ""), ("stuck", ""), ("full", "b")]
        dice = random.Random(35)
        for _ in range(20):
            dice.shuffle(pairs)
            self.assertEqual(Verdict(pairs).pairs(), wanted)
            self.assertEqual(Verdict(tuple(pairs)).pairs(), wanted)

    def test_fields_in_ascending_string_order(self):
        fields = ["", " ", "A", "Z", "a", "aa", "ab", "b", "~"]
        for many in (1, 3, 9):
            for row in itertools.islice(itertools.permutations(fields, many), 300):
                pairs = [("elder", field) for field in row]
                self.assertEqual(Verdict(pairs).pairs(), [("elder", field) for field in sorted(row)])

    def test_duplicates_count_once(self):
        verdict = Verdict([("stale", "a"), ("stale", "b"), ("stale", "a"), ("stale", "a")])
        self.assertEqual(verdict.pairs(), [("stale", "a"), ("stale", "b")])
        self.assertEqual(len(verdict), 2)
        self.assertEqual(verdict, Verdict((("stale", "b"), ("stale", "a"))))

    def test_an_empty_verdict(self):
        for pairs in ([], ()):
            verdict = Verdict(pairs)
            self.assertEqual((verdict.pairs(), verdict.kinds(), len(verdict)), ([], [], 0))
            self.assertIs(bool(verdict), False)
            self.assertEqual(verdict, Verdict([]))

    def test_each_kind_is_one(self):
        for kind in KINDS:
            verdict = Verdict([(kind, "no field")])
            self.assertEqual(verdict.pairs(), [(kind, "no field")])
            self.assertEqual(verdict.kinds(), [kind])
            self.assertIs(bool(verdict), True)

    def test_the_first_pair_that_is_of_no_kind(self):
        for kind in NO_KINDS:
            self.assert_refused(InvalidKind, {"kind": kind}, Verdict, [(kind, "a")])
            pairs = (("stale", "a"), (kind, "b"), ("later", "c"), ("full", "a"))
            self.assert_refused(InvalidKind, {"kind": kind}, Verdict, pairs)
        self.assert_refused(InvalidKind, {"kind": "zz"}, Verdict, [("zz", "a"), ("aa", "a")])

    def test_what_is_passed_and_returned_stays_apart(self):
        pairs = [("stale", "b"), ("full", "a"), ("stale", "a")]
        verdict = Verdict(pairs)
        self.assertEqual(pairs, [("stale", "b"), ("full", "a"), ("stale", "a")])
        pairs.clear()
        self.assertEqual(len(verdict), 3)
        self.assert_new_list(verdict.pairs)
        self.assert_new_list(verdict.kinds)

    def test_kinds_without_duplicates(self):
        for pairs in some_sets(random.Random(1)):
            found = {kind for kind, field in pairs}
            self.assertEqual(Verdict(list(pairs)).kinds(), [kind for kind in KINDS if kind in found])

    def test_only_some_kinds(self):
        dice = random.Random(2)
        for pairs in some_sets(dice):
            verdict = Verdict(list(pairs))
            for kinds in ([], ["stale"], ("full", "unshown"), ["stale", "stale"], ["wrong"], list(KINDS),
                          ("elder", "zz", ""), dice.sample(KINDS, 4)):
                kept = list(kinds)
                found = verdict.only(kinds)
                self.assertIs(type(found), Verdict)
                self.assertEqual(found.pairs(), in_order({pair for pair in pairs if pair[0] in kinds}))
                self.assertEqual(list(kinds), kept)
            self.assertEqual(verdict.pairs(), in_order(pairs))

    def test_the_operators_against_sets(self):
        dice = random.Random(3)
        for one, other in itertools.product(some_sets(dice), repeat=2):
            first, second = Verdict(list(one)), Verdict(tuple(other))
            for found, wanted in (
                (first | second, one | other), (first & second, one & other),
                (first - second, one - other), (first ^ second, one ^ other),
            ):
                self.assertIs(type(found), Verdict)
                self.assertEqual(found.pairs(), in_order(wanted))
                self.assertEqual(len(found), len(wanted))
            self.assertIs(first == second, one == other)
            self.assertIs(first != second, one != other)
            # Neither of them is changed.
            self.assertEqual((first.pairs(), second.pairs()), (in_order(one), in_order(other)))

    def test_with_itself(self):
        verdict = Verdict([("stale", "a"), ("full", "b")])
        self.assertEqual((verdict | verdict).pairs(), verdict.pairs())
        self.assertEqual((verdict & verdict).pairs(), verdict.pairs())
        self.assertEqual((verdict - verdict).pairs(), [])
        self.assertEqual((verdict ^ verdict).pairs(), [])
        self.assertTrue(verdict == verdict)

    def test_what_an_operator_returns_is_a_new_verdict(self):
        first, second = Verdict([("stale", "a")]), Verdict([])
        for found in (first | second, first - second, first ^ second, first & first, first.only(["stale"])):
            self.assertEqual(found, first)
            self.assertIsNot(found, first)

    def test_an_operator_at_an_assignment_leaves_the_verdict_as_it_is(self):
        first = Verdict([("stale", "a")])
        held = first
        held |= Verdict([("full", "a")])
        self.assertEqual(len(held), 2)
        held -= Verdict([("stale", "a")])
        self.assertEqual(held.pairs(), [("full", "a")])
        self.assertEqual(first.pairs(), [("stale", "a")])

    def test_equal_verdicts(self):
        base = Verdict([("stale", "a"), ("full", "b")])
        self.assertTrue(base == Verdict([("full", "b"), ("stale", "a"), ("full", "b")]))
        for other in ([("stale", "a")], [("stale", "b"), ("full", "a")], [],
                      [("stale", "a"), ("full", "b"), ("full", "a")], [("stale", "b"), ("full", "b")]):
            self.assertFalse(base == Verdict(other))
            self.assertTrue(base != Verdict(other))

    def test_in(self):
        verdict = Verdict([("stale", "a"), ("early", ""), ("stale", "b")])
        for pair in (("stale", "a"), ("early", ""), ("stale", "b")):
            self.assertIs(pair in verdict, True)
            self.assertIs(pair not in verdict, False)
        for pair in (("stale", ""), ("stale", "c"), ("early", "a"), ("full", "a"), ("wrong", "a"),
                     ("a", "stale"), ("", "")):
            self.assertIs(pair in verdict, False)

    def test_truth(self):
        self.assertTrue(Verdict([("stuck", "")]))
        self.assertFalse(Verdict([("stuck", "")]) - Verdict([("stuck", "")]))


if __name__ == "__main__":
    unittest.main()
