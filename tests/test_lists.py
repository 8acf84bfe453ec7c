"""Points 41 and 42: needed pairs, and the least pairs that keep a form free of faults."""

import itertools
import unittest

from asserts import Asserts
from plainbook import plain_book, subsets
from samples import (
    example_form, extreme_values, lone_form, many_forms, odd_values, small_forms, two_far_form,
)

from wrongshown.books import Book
from wrongshown.errors import InvalidBound, InvalidKind, LimitExceeded
from wrongshown.forms import Form
from wrongshown.judge import KINDS
from wrongshown.lists import least_pairs, needed
from wrongshown.picks import picks
from wrongshown.rules import Rule

NONE = (None, None)


def looking_form():
    """Only g looks at a field, and an entry of it differs with the word of that field."""
    return Form(("off", "on"), (
        ("f", ("off", None, NONE, None)), ("g", ("off", "f", (("m", None), NONE), None)),
    ))


def round_form():
    """Each of three fields looks at the next one."""
    table = ((None, "m"), ("m", None))
    return Form(("off", "on"), (
        ("b", ("off", "c", table, None)), ("c", ("off", "a", table, None)), ("a", ("off", "b", table, None)),
    ))


def possible(form):
    return sorted(itertools.permutations([name for name, parts in form.fields], 2))


def plain_least_pairs(form, rule, kinds, resets=True):
    """The sets of the fewest pairs that serve, and the most standings of the books that were tried."""
    most = 0
    for count in range(len(possible(form)) + 1):
        found = []
        for pairs in subsets(possible(form), count):
            book = plain_book(form, rule.with_part("around", pairs), resets)
            most = max(most, len(book.standings))
            if not book.kinds() & set(kinds):
                found.append(pairs)
        if found:
            return found, most
    return [], most


class NeededTests(Asserts):
    def test_forms_by_hand(self):
        self.assertEqual(needed(looking_form()), [("f", "g")])
        self.assertEqual(needed(round_form()), [("a", "c"), ("b", "a"), ("c", "b")])
        self.assertEqual(needed(example_form()), [("a", "b")])
        self.assertEqual(needed(two_far_form()), [])
        self.assertEqual(needed(lone_form()), [])

    def test_a_table_whose_rows_do_not_differ(self):
        # The entries of a word are the same whatever the other field holds, but not for both words.
        same = (("m", "m"), (None, None))
        form = looking_form().with_table("g", "near", same)
        self.assertEqual(needed(form), [])
        for table in ((("m", "m"), ("m", None)), ((None, "m"), ("m", "m")), (("m", "n"), (None, None)),
                      ((None, None), ("n", "m"))):
            self.assertEqual(needed(form.with_table("g", "near", table)), [("f", "g")])

    def test_far_tables_do_not_matter(self):
        form = looking_form().with_table("f", "far", (None, "x")).with_table("g", "far", ("y", None))
        self.assertEqual(needed(form), [("f", "g")])
        same = form.with_table("g", "near", (NONE, NONE))
        self.assertEqual(needed(same), [])

    def test_three_words(self):
        wide = ((None, None, None), (None, None, "m"), ("n", "n", "n"))
        form = Form(("p", "q", "r"), (("b", ("p", "a", wide, None)), ("a", ("p", "b", (wide[0],) * 3, None))))
        self.assertEqual(needed(form), [("a", "b")])

    def test_in_a_second_way(self):
        for form in [*many_forms(), *small_forms(), round_form()]:
            wanted = []
            for first, second in possible(form):
                looks, near = form.parts_of(second)[1:3]
                if looks == first and any(
                    row[one] != row[other] for row in near
                    for one in range(len(row)) for other in range(len(row))
                ):
                    wanted.append((first, second))
            self.assertEqual(needed(form), wanted)

    def test_the_list_is_a_new_one(self):
        self.assert_new_list(lambda: needed(round_form()))


class LeastPairsTests(Asserts):
    def test_the_example(self):
        rule = Rule("enter", "enter", "own")
        self.assertEqual(least_pairs(looking_form(), rule, ["unshown", "stale"]), [(("f", "g"),)])

    def test_no_pair_is_needed(self):
        rule = Rule("enter", "enter", "own")
        self.assertEqual(least_pairs(looking_form(), rule, ["elder", "sent"]), [()])
        self.assertEqual(least_pairs(looking_form(), rule, []), [()])
        self.assertEqual(least_pairs(looking_form(), rule, ()), [()])
        self.assertEqual(least_pairs(lone_form(), rule, KINDS[:4]), [()])

    def test_no_set_serves(self):
        form = Form(("off", "on"), (("f", ("off", None, ("m", None), None)),))
        rule = Rule("enter", "leave", "own")
        self.assertEqual(least_pairs(form, rule, ["stale"]), [])
        self.assertEqual(least_pairs(looking_form(), rule, ("unshown", "stale")), [])
        self.assertEqual(least_pairs(two_far_form().with_room(1), Rule("send", "leave", "own"), ["full"]), [])

    def test_in_a_second_way(self):
        forms = [looking_form(), looking_form().with_table("f", "near", ("w", None)),
                 *[form for form in small_forms() if len(form.fields) == 2][:3]]
        sizes = set()
        for number, form in enumerate(forms):
            for turn, kinds in enumerate((["unshown"], ("stale", "unshown"), ["elder", "stale"], list(KINDS),
                                          ("full",), ("stale", "stale", "elder"))):
                rule = [
                    Rule("enter", "enter", "own"), Rule("leave", "enter", "looks", taken="last"),
                    Rule("send", "leave", (("f", "g"),), taken="any", sending="go"),
                    Rule("leave", "leave", (), wipes=True),
                ][(number + turn) % 4]
                resets = turn % 2 == 0
                wanted, most = plain_least_pairs(form, rule, kinds, resets)
                found = least_pairs(form, rule, kinds, resets=resets)
                self.assertEqual(found, wanted)
                self.assertEqual([type(pairs) for pairs in found], [tuple] * len(found))
                sizes.add(len(found[0]) if found else None)
        self.assertEqual(sizes, {None, 0, 1})

    def test_three_fields(self):
        form = round_form()
        rule = Rule("enter", "enter", "own")
        wanted = [(("a", "c"), ("b", "a"), ("c", "b"))]
        self.assertEqual(least_pairs(form, rule, ["unshown", "stale"]), wanted)
        self.assertEqual(least_pairs(form, rule, ["stale"], resets=False), wanted)

    def test_all_sets_of_a_size_stand_in_ascending_order(self):
        for rows in ([], ["a"], ["a", "b"], possible(round_form())):
            for count in range(len(rows) + 1):
                found = picks(rows, count)
                self.assertEqual(found, subsets(rows, count))
                self.assertEqual(found, sorted(found))
        self.assertEqual(picks(["b", "a", "b"], 2), [("b", "a"), ("b", "b"), ("a", "b")])

    def test_needed_pairs_are_the_least(self):
        """The last sentence of point 42."""
        forms = [form.with_room(3) for form in small_forms()[:7]]
        for form in [*forms, looking_form(), round_form()]:
            for opens in ("enter", "leave", "send") if len(form.fields) < 3 else ("enter",):
                rule = Rule(opens, "enter", "own", sending="bar")
                self.assertEqual(least_pairs(form, rule, ["stale", "unshown"]), [tuple(needed(form))])

    def test_the_part_around_of_the_rule_does_not_matter(self):
        for around in ("own", "looks", (), (("f", "g"),), (("g", "f"), ("x", "y"))):
            rule = Rule("enter", "enter", around)
            self.assertEqual(least_pairs(looking_form(), rule, ["unshown"]), [(("f", "g"),)])
            self.assertEqual(rule.around, around)

    def test_the_list_is_a_new_one_and_no_argument_changes(self):
        kinds = ["stale", "unshown"]
        rule = Rule("enter", "enter", "own")
        self.assert_new_list(lambda: least_pairs(looking_form(), rule, kinds))
        self.assertEqual(kinds, ["stale", "unshown"])


class ErrorTests(Asserts):
    def test_limits_that_are_none(self):
        rule = Rule("enter", "enter", "own")
        for value in [*odd_values(), *extreme_values(), 10001, 0, -5]:
            if type(value) is int and 1 <= value <= 10000:
                continue
            for kinds in ([], ["wrong"], ["stale"]):
                self.assert_refused(
                    InvalidBound, {"value": value}, least_pairs, looking_form(), rule, kinds, limit=value)

    def test_words_that_are_no_kinds(self):
        rule = Rule("enter", "enter", "own")
        for kind in ("", "Stale", "stale ", "f"):
            for kinds in ([kind], ("stale", kind), ["unshown", kind, "zz"], (kind, "stale", "yy")):
                self.assert_refused(
                    InvalidKind, {"kind": kind}, least_pairs, looking_form(), rule, kinds, limit=1)

    def test_a_limit_that_is_just_enough(self):
        rule = Rule("enter", "enter", "own")
        form = looking_form()
        wanted, most = plain_least_pairs(form, rule, ["unshown"])
        self.assertEqual(least_pairs(form, rule, ["unshown"], limit=most), wanted)
        self.assert_refused(
            LimitExceeded, {"limit": most - 1}, least_pairs, form, rule, ["unshown"], limit=most - 1)

    def sizes(self, form, rule):
        """The number of standings of the books for all sets of pairs."""
        return {
            pairs: len(Book(form, rule.with_part("around", pairs)))
            for count in range(len(possible(form)) + 1) for pairs in subsets(possible(form), count)
        }

    def test_a_limit_that_another_set_exceeds(self):
        """The set that serves has a smaller book than the sets of fewer pairs that are tried ahead."""
        form = looking_form().with_table("f", "far", (None, "x")).with_room(1)
        rule = Rule("enter", "enter", "own")
        kinds = ["unshown", "stale"]
        sizes = self.sizes(form, rule)
        self.assertEqual(least_pairs(form, rule, kinds), [(("f", "g"),)])
        self.assertLess(sizes[("f", "g"),], sizes[("g", "f"),])
        self.assertEqual(max(sizes.values()), sizes[()])
        self.assertEqual(least_pairs(form, rule, kinds, limit=sizes[()]), [(("f", "g"),)])
        for limit in (sizes[()] - 1, sizes[("f", "g"),], sizes[("f", "g"),] - 1, 1):
            self.assert_refused(
                LimitExceeded, {"limit": limit}, least_pairs, form, rule, kinds, limit=limit)

    def test_a_limit_where_no_set_serves(self):
        form = looking_form().with_table("f", "far", (None, "x")).with_room(1)
        rule = Rule("leave", "leave", "own")
        most = max(self.sizes(form, rule).values())
        self.assertEqual(least_pairs(form, rule, ["unshown"], limit=most), [])
        self.assert_refused(
            LimitExceeded, {"limit": most - 1}, least_pairs, form, rule, ["unshown"], limit=most - 1)

    def test_a_limit_without_kinds(self):
        form = looking_form()
        rule = Rule("leave", "leave", "looks")
        least = len(Book(form, rule.with_part("around", ())))
        self.assertEqual(least_pairs(form, rule, [], limit=least), [()])
        self.assert_refused(LimitExceeded, {"limit": least - 1}, least_pairs, form, rule, [], limit=least - 1)


if __name__ == "__main__":
    unittest.main()
