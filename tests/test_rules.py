"""Point 9: the parts of a rule, their order, equality, texts and the list of all rules."""

import copy
import itertools
import unittest

from samples import extreme_values, odd_values, odd_values_but, same_kind_and_value

from wrongshown.errors import InvalidRule
from wrongshown.rules import PARTS, Rule, all_rules

CHOICES = {
    "opens": ("enter", "leave", "send"),
    "checks": ("enter", "leave"),
    "around": ("own", "looks"),
    "wipes": (False, True),
    "taken": ("any", "same", "last"),
    "sending": ("bar", "wait", "go"),
}
AROUNDS = [
    (), (("a", "b"),), (("b", "a"),), (("a", "b"), ("b", "a")), (("a", "b"), ("a", "c"), ("b", "a")),
    (("own", "looks"),), (("z", "abcdefgh"),), (("abcdefgh", "z"),), (("a", "ab"), ("ab", "a")),
    tuple(itertools.permutations(("a", "b", "c", "d"), 2)),
]
WRONG_AROUNDS = [
    "Own", "own ", "looks\n", "/", "a/b", "", "all", ("own",), ("looks",), ("a", "b"), ["own"],
    [], [("a", "b")], [["a", "b"]], (["a", "b"],), ("ab",), ("a/b",), ((),), (("a",),),
    (("a", "b", "c"),), (("a", "a"),), (("a", "b"), ("a", "b")), (("a", "b"), ("c", "c")),
    (("a", "b"), ("b", "a"), ("a", "b")), (("a", "B"),), (("A", "b"),), (("a", ""),), (("", "b"),),
    (("a", "abcdefghi"),), (("a b", "c"),), (("a", "b\n"),), (("a", "b1"),), (("a", "-"),),
    (("a", None),), ((None, "b"),), (("a", 1),), ((0, 1),), ((True, False),), ((("a",), "b"),),
    (("a", ["b"]),), (("a", {}),), (("a", "b"), None), (None,), (0,), {"a": "b"}, {("a", "b"): True},
    (("a", "b"), ["c", "d"]), ((("a", "b"),),), ((("a", "b"), ("b", "a")),), 0, 1,
    (("a", "\u00e4"),), (("a", "\u0430"),),
]


def allowed_values(part):
    return [*CHOICES[part], *(AROUNDS if part == "around" else [])]


def wrong_values(part):
    wrong = odd_values_but(*allowed_values(part))
    others = {word for values in CHOICES.values() for word in values if isinstance(word, str)}
    others |= {"keeps", "wipes", "text", *PARTS}
    wrong.extend(sorted(others - set(CHOICES[part])))
    if part == "around":
        wrong.extend(WRONG_AROUNDS)
    if part == "wipes":
        wrong.extend([0, 1, "True", "False", None])
    return wrong


def made(values):
    """The rule of six values in the order of PARTS."""
    opens, checks, around, wipes, taken, sending = values
    return Rule(opens, checks, around, wipes=wipes, taken=taken, sending=sending)


def told(values):
    """The part that Rule tells of, or None if it takes the values."""
    try:
        made(values)
    except InvalidRule as error:
        return error.part
    return None


def parts_of(rule):
    return tuple(getattr(rule, part) for part in PARTS)


GOOD = ("leave", "enter", (("b", "a"), ("a", "b")), True, "last", "go")


class PartTests(unittest.TestCase):
    def test_the_names_of_the_parts(self):
        self.assertEqual(PARTS, ("opens", "checks", "around", "wipes", "taken", "sending"))

    def test_the_parts_that_are_left_out(self):
        rule = Rule("enter", "leave", "own")
        self.assertEqual(parts_of(rule), ("enter", "leave", "own", False, "same", "wait"))
        self.assertIs(rule.wipes, False)
        self.assertEqual(sorted(vars(rule)), sorted(PARTS))

    def test_the_last_three_parts_are_passed_by_keyword_alone(self):
        with self.assertRaises(TypeError):
            Rule("enter", "leave", "own", True)

    def test_each_allowed_value_of_each_part(self):
        for at, part in enumerate(PARTS):
            for value in allowed_values(part):
                values = [*GOOD[:at], value, *GOOD[at + 1:]]
                kept = tuple(sorted(value)) if isinstance(value, tuple) else value
                with self.subTest(part, value=value):
                    self.assertTrue(same_kind_and_value(getattr(made(values), part), kept))

    def test_each_wrong_value_of_each_part(self):
        for at, part in enumerate(PARTS):
            for value in [*wrong_values(part), *extreme_values()]:
                values = [*GOOD[:at], value, *GOOD[at + 1:]]
                self.assertEqual(told(values), part)

    def test_the_first_wrong_part_is_told(self):
        for wrong in itertools.product((False, True), repeat=len(PARTS)):
            for value in (None, 0, [], {}, "zzz", ("own",)):
                values = [value if bad else good for bad, good in zip(wrong, GOOD)]
                first = PARTS[wrong.index(True)] if True in wrong else None
                self.assertEqual(told(values), first)

    def test_no_argument_is_modified(self):
        for value in odd_values():
            before = copy.deepcopy(value)
            told([value] * len(PARTS))
            self.assertEqual(value, before)


class PairTests(unittest.TestCase):
    def test_pairs_in_any_order_are_kept_in_ascending_order(self):
        pairs = (("a", "b"), ("a", "c"), ("b", "a"), ("c", "ab"))
        for order in itertools.permutations(pairs):
            rule = Rule("enter", "leave", order)
            self.assertEqual(rule.around, pairs)
            self.assertTrue(rule == Rule("enter", "leave", pairs))
            self.assertEqual(str(rule), "enter leave a/b,a/c,b/a,c/ab keeps same wait")

    def test_the_empty_tuple_is_neither_own_nor_looks(self):
        rule = Rule("enter", "leave", ())
        self.assertEqual(rule.around, ())
        self.assertFalse(rule == Rule("enter", "leave", "own"))
        self.assertFalse(rule == Rule("enter", "leave", "looks"))

    def test_a_pair_and_its_reverse_are_different(self):
        one = Rule("enter", "leave", (("a", "b"),))
        other = Rule("enter", "leave", (("b", "a"),))
        self.assertFalse(one == other)

    def test_doubled_pairs(self):
        for pairs in ((("a", "b"),) * 2, (("a", "b"), ("b", "a"), ("a", "b"))):
            self.assertEqual(told(("enter", "leave", pairs, False, "any", "go")), "around")


class EqualityTests(unittest.TestCase):
    def test_two_rules_are_equal_if_all_parts_are(self):
        rules = all_rules() + [Rule("enter", "leave", around) for around in AROUNDS]
        for at, rule in enumerate(rules):
            for other_at, other in enumerate(rules):
                self.assertEqual(rule == other, at == other_at)
                self.assertEqual(rule != other, at != other_at)
            self.assertTrue(rule == made(parts_of(rule)))

    def test_each_part_changed_alone(self):
        rule = made(GOOD)
        for at, part in enumerate(PARTS):
            for value in allowed_values(part):
                other = made([*GOOD[:at], value, *GOOD[at + 1:]])
                same = sorted(value) == sorted(GOOD[at]) if part == "around" else value == GOOD[at]
                self.assertEqual(rule == other, same)


class AllRulesTests(unittest.TestCase):
    def test_the_216_rules_in_their_order(self):
        expected = list(itertools.product(*[CHOICES[part] for part in PARTS]))
        self.assertEqual([parts_of(rule) for rule in all_rules()], expected)
        self.assertEqual(len(expected), 216)
        for rule in all_rules():
            self.assertIsInstance(rule, Rule)
            self.assertIsInstance(rule.wipes, bool)

    def test_the_list_is_a_new_one(self):
        first = all_rules()
        first.clear()
        self.assertIsInstance(all_rules(), list)
        self.assertEqual(len(all_rules()), 216)


class WithPartTests(unittest.TestCase):
    def setUp(self):
        self.rule = made(GOOD)

    def tearDown(self):
        self.assertTrue(self.rule == made(GOOD))

    def test_each_part_with_each_allowed_value(self):
        for at, part in enumerate(PARTS):
            for value in allowed_values(part):
                changed = self.rule.with_part(part, value)
                self.assertIsNot(changed, self.rule)
                self.assertIsInstance(changed, Rule)
                self.assertTrue(changed == made([*GOOD[:at], value, *GOOD[at + 1:]]))

    def test_pairs_are_put_in_order(self):
        changed = self.rule.with_part("around", (("c", "a"), ("b", "c")))
        self.assertEqual(changed.around, (("b", "c"), ("c", "a")))

    def test_each_part_with_wrong_values(self):
        for part in PARTS:
            for value in [*wrong_values(part), *extreme_values()]:
                with self.assertRaises(InvalidRule) as caught:
                    self.rule.with_part(part, value)
                self.assertEqual(caught.exception.part, part)

    def test_parts_of_any_kind(self):
        wrong = [*odd_values(), *extreme_values(), "open", "Opens", "text", 0, ("opens",), ["opens"]]
        for part in wrong:
            for value in ("enter", "own", True, None, []):
                with self.assertRaises(InvalidRule) as caught:
                    self.rule.with_part(part, value)
                self.assertIs(caught.exception.part, part)


class TextTests(unittest.TestCase):
    def refuses(self, text):
        with self.assertRaises(InvalidRule) as caught:
            Rule.named(text)
        self.assertEqual(caught.exception.part, "text")

    def words_of(self, rule):
        around = rule.around
        if not isinstance(around, str):
            around = ",".join(first + "/" + second for first, second in around) or "/"
        wipes = {True: "wipes", False: "keeps"}[rule.wipes]
        return [rule.opens, rule.checks, around, wipes, rule.taken, rule.sending]

    def rules(self):
        return all_rules() + [
            Rule("send", "leave", around, wipes=True, taken="any", sending="bar") for around in AROUNDS
        ]

    def test_the_text_of_each_rule_and_back(self):
        for rule in self.rules():
            text = " ".join(self.words_of(rule))
            with self.subTest(text):
                self.assertEqual(str(rule), text)
                again = Rule.named(text)
                self.assertIsInstance(again, Rule)
                self.assertTrue(again == rule)
                self.assertTrue(rule.named(text) == rule)

    def test_no_two_rules_have_one_text(self):
        texts = [str(rule) for rule in self.rules()]
        self.assertEqual(len(set(texts)), len(texts))

    def test_written_texts(self):
        for text, values in (
            ("leave enter looks keeps same wait", ("leave", "enter", "looks", False, "same", "wait")),
            ("send leave / wipes any go", ("send", "leave", (), True, "any", "go")),
            ("enter leave a/b,b/a keeps last bar",
             ("enter", "leave", (("a", "b"), ("b", "a")), False, "last", "bar")),
            ("enter leave looks/own wipes last bar",
             ("enter", "leave", (("looks", "own"),), True, "last", "bar")),
        ):
            self.assertEqual(parts_of(Rule.named(text)), values)
            self.assertIs(Rule.named(text).wipes, values[3])

    def test_one_word_changed(self):
        allowed = {part: set(CHOICES[part]) for part in PARTS}
        allowed["wipes"] = {"wipes", "keeps"}
        allowed["around"] |= {"/", "a/b", "a/b,b/a"}
        vocabulary = set().union(*allowed.values()) | {
            "", "Own", "b/a,a/b", "a/b,a/b", "a/a", "a", "a,b", "a/", "/a", "//", "a//b", "a/b/c",
            ",", "a/b,", ",a/b", "a/b,,b/a", "A/b", "a/abcdefghi", "True", "False", "wait\n", "\twait",
            "a/b,/", "/,/", "()", "a/b;b/a", "a/1", "own,looks", "own/own", "None",
        }
        for rule in (Rule("leave", "enter", "looks"), made(GOOD)):
            for at, part in enumerate(PARTS):
                for word in sorted(vocabulary):
                    words = self.words_of(rule)
                    words[at] = word
                    with self.subTest(words):
                        if word in allowed[part]:
                            self.assertEqual(self.words_of(Rule.named(" ".join(words))), words)
                        else:
                            self.refuses(" ".join(words))

    def test_a_word_left_out_or_doubled(self):
        for rule in self.rules():
            words = self.words_of(rule)
            for at in range(len(words)):
                self.refuses(" ".join(words[:at] + words[at + 1:]))
                self.refuses(" ".join(words[:at + 1] + words[at:]))
                self.refuses(" ".join(words[:at] + [""] + words[at:]))
            self.refuses(" ".join(words + [""]))
            self.refuses(" ".join(words + words))

    def test_words_moved(self):
        for rule in (Rule("leave", "enter", "looks"), Rule("send", "leave", (("a", "b"),))):
            words = self.words_of(rule)
            for moved in itertools.permutations(words):
                if moved[2:] == tuple(words[2:]) and moved[0] in CHOICES["opens"] \
                        and moved[1] in CHOICES["checks"]:
                    self.assertEqual(str(Rule.named(" ".join(moved))), " ".join(moved))
                else:
                    self.refuses(" ".join(moved))

    def test_other_blanks(self):
        words = self.words_of(made(GOOD))
        for blank in ("", "  ", "\t", "\n", " \n", ",", "_", "\u00a0"):
            self.refuses(blank.join(words))
            for at in range(1, len(words)):
                self.refuses(" ".join(words[:at]) + blank + " ".join(words[at:]))
            if blank:
                self.refuses(blank + " ".join(words))
                self.refuses(" ".join(words) + blank)
        self.refuses(" " + " ".join(words))
        self.refuses(" ".join(words) + " ")

    def test_pairs_in_another_order(self):
        pairs = ("a/b", "a/c", "b/a")
        for order in itertools.permutations(pairs):
            text = "send leave " + ",".join(order) + " wipes any go"
            if order == pairs:
                self.assertEqual(str(Rule.named(text)), text)
            else:
                self.refuses(text)

    def test_values_that_are_no_texts_of_a_rule(self):
        good = "leave enter looks keeps same wait"
        for value in [*odd_values(), *extreme_values(), good.split(), tuple(good.split()), {good: 1},
                      [good], (good,), GOOD, made(GOOD).around, "\n".join([good, good]), good.upper()]:
            self.refuses(value)


if __name__ == "__main__":
    unittest.main()
