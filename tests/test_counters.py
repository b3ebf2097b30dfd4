"""Section 6: counters, settings and short sets of kinds."""

import inspect
import itertools
import unittest

from fitruns import counters as module
from fitruns.counters import is_counters, is_setting, setting_for, shows_short
from fitruns.errors import BadCounters, BadKinds
from tests import plain
from tests.samples import COUNTERS
from tests.support import ANY_VALUES, FitTest, is_like, twists

# Counters under which short sets are of one, of two and of three kinds, and some kinds cannot be counted at all.
MANY = COUNTERS + (
    ((("x",), 2), (("x",), 999), (("x", "y"), None)),
    ((("x", "y"), 2), (("x", "y"), 2), (("x", "y"), 2)),
    ((("x", "y"), 7), (("y", "z"), 7), (("x", "z"), 7)),
    ((("z",), None), (("y", "z"), None), (("x", "y", "z"), None)),
    ((("y",), None), (("x", "y"), None)),
    ((("abcdefgh",), 3),),
    ((tuple("abcdefghijklmnopqrstuvwxyz"), None),) * 3,
)
KINDS = [kinds for many in range(6) for kinds in itertools.combinations(("k", "none", "x", "y", "z"), many)]


class TestExamples(FitTest):
    def test_the_example(self):
        counters = ((('x', 'y'), None), (('y',), 4))
        first, second = setting_for(counters, ('x', 'y')), setting_for(counters, ('y',))
        self.assert_like(
            [first, second, setting_for(counters, ('x', 'y', 'z'))[0], shows_short(counters, ('x', 'y', 'z'), ('z',))],
            [('setting', ('x', 'y')), ('setting', (None, 'y')), 'short', True])


class TestInterface(FitTest):
    def test_the_functions_are_defined_in_their_file(self):
        for function in (module.is_counters, module.is_setting, module.setting_for, module.shows_short):
            self.assertTrue(inspect.isfunction(function))
            self.assertEqual(function.__module__, "fitruns.counters")

    def test_arguments_by_name(self):
        counters = ((("x", "y"), None),)
        self.assertIs(is_counters(value=counters), True)
        self.assertIs(is_setting(value=("x",), counters=counters), True)
        self.assert_like(setting_for(kinds=("y",), counters=counters), ("setting", ("y",)))
        self.assertIs(shows_short(value=("x", "y"), kinds=("x", "y"), counters=counters), True)
        self.assert_raises_just(BadCounters, None, is_setting, value=("x",), counters=None)
        self.assert_raises_just(BadKinds, "x", setting_for, kinds="x", counters=counters)
        self.assert_raises_just(BadKinds, "x", shows_short, value=(), kinds="x", counters=counters)


class TestIsCounters(FitTest):
    def assert_judged(self, value):
        before = repr(value)
        self.assertIs(is_counters(value), plain.is_counters(value), value)
        self.assertEqual(repr(value), before)

    def test_right_ones(self):
        for counters in MANY:
            self.assertIs(is_counters(counters), True)

    def test_any_value(self):
        for value in ANY_VALUES:
            self.assert_judged(value)
            self.assert_judged((value,))
            self.assert_judged(((value, None),))
            self.assert_judged(((("x",), value),))
            self.assert_judged((((value,), None),))

    def test_right_ones_with_one_part_otherwise(self):
        verdicts = []
        for counters in COUNTERS[:4]:
            for value in twists(counters):
                self.assert_judged(value)
                verdicts.append(plain.is_counters(value))
        self.assertGreater(verdicts.count(True), 100)
        self.assertGreater(verdicts.count(False), 1000)

    def test_sizes(self):
        for size in (None, 2, 3, 100, 998, 999):
            self.assertIs(is_counters(((("x",), size),)), True)
        for size in (1, 1000, 0, -1, -2, 10 ** 17, True, False, "2", "", (2,), [2], {2: 2}, ()):
            self.assertIs(is_counters(((("x",), size),)), False, size)

    def test_how_many_counters(self):
        one = (("x",), None)
        for many in range(6):
            self.assertIs(is_counters((one,) * many), many in (1, 2, 3))
        self.assertIs(is_counters(one), False)
        self.assertIs(is_counters([one]), False)

    def test_kinds(self):
        for kinds in (("x",), ("a", "b", "c"), ("abcdefgh", "z"), tuple("abcdefghijklmnopqrstuvwxyz"), ("a", "aa", "b")):
            self.assertIs(is_counters(((kinds, None),)), True)
        for kinds in ((), ("b", "a"), ("a", "a"), ("a", "c", "b"), "a", "ab", ["a"], {"a": 1}, ("a", 1), (None,), None,
                      ("",), ("abcdefghi",), ("A",), ("a1",), ("a ",), ("\u00e9",), (("a",),), ("aa", "a")):
            self.assertIs(is_counters(((kinds, None),)), False, kinds)
            self.assertIs(is_counters(((("x",), None), (kinds, 2))), False, kinds)

    def test_two_parts_each(self):
        for part in (("x",), (("x",),), (("x",), None, None), (("x",), 2, 3), [("x",), 2], (), None, "x", (2, ("x",))):
            self.assertIs(is_counters((part,)), False, part)
            self.assertIs(is_counters(((("x",), None), part)), False, part)


class TestIsSetting(FitTest):
    def assert_judged(self, counters, value):
        before = repr((counters, value))
        self.assertIs(is_setting(counters, value), plain.is_setting(counters, value), (counters, value))
        self.assertEqual(repr((counters, value)), before)

    def test_all_tuples_of_kinds(self):
        kinds = (None, "x", "y", "z", "k", "none", "abcdefgh", "a")
        for counters in MANY:
            for many in range(5):
                for value in itertools.product(kinds[:4] if many > 3 else kinds, repeat=many):
                    self.assert_judged(counters, value)

    def test_all_settings_are_settings(self):
        for counters in MANY[:-1]:
            for setting in plain.all_settings(counters):
                self.assertIs(is_setting(counters, setting), True)

    def test_any_value(self):
        for counters in MANY:
            for value in ANY_VALUES:
                self.assert_judged(counters, value)
                self.assert_judged(counters, (value,))
                self.assert_judged(counters, (None, value))
                self.assert_judged(counters, ("x", value, None))

    def test_settings_with_one_part_otherwise(self):
        for counters in COUNTERS:
            for setting in plain.all_settings(counters)[-3:]:
                for value in twists(setting):
                    self.assert_judged(counters, value)

    def test_a_kind_on_which_another_counter_can_be_put(self):
        counters = ((("x",), None), (("y",), None))
        told = [is_setting(counters, value) for value in (("x", "y"), ("y", "x"), ("x", "x"), (None, None), (None, "y"))]
        self.assertEqual(told, [True, False, False, True, True])
        self.assertEqual([is_setting(counters, value) for value in (("x",), ("x", "y", None), (), ["x", "y"])], [False] * 4)


class TestSettingFor(FitTest):
    def least_setting(self, counters, kinds):
        for setting in plain.all_settings(counters):
            if set(kinds) <= set(setting):
                return setting
        return None

    def test_the_least_setting_of_all_or_short(self):
        seen = {"setting": 0, "short": 0}
        for counters in MANY[:-1]:
            for kinds in KINDS:
                told, wanted = setting_for(counters, kinds), self.least_setting(counters, kinds)
                seen[told[0]] += 1
                if wanted is None:
                    self.assertEqual((type(told), len(told), told[0]), (tuple, 2, "short"), (counters, kinds))
                    self.assertTrue(plain.is_short(counters, kinds, told[1]), (counters, kinds, told))
                    self.assertIs(shows_short(counters, kinds, told[1]), True)
                else:
                    self.assert_like(told, ("setting", wanted), (counters, kinds))
        self.assertGreater(min(seen.values()), 50)

    def test_no_kinds(self):
        for counters in MANY:
            self.assert_like(setting_for(counters, ()), ("setting", (None,) * len(counters)))

    def test_none_comes_ahead_of_all_names(self):
        counters = ((("a", "b"), None), (("a", "b"), None), (("b",), 2))
        self.assert_like(setting_for(counters, ("a",)), ("setting", (None, "a", None)))
        self.assert_like(setting_for(counters, ("b",)), ("setting", (None, None, "b")))
        self.assert_like(setting_for(counters, ("a", "b")), ("setting", (None, "a", "b")))
        self.assert_like(setting_for(counters[:2], ("a", "b")), ("setting", ("a", "b")))
        self.assert_like(setting_for(counters[1:], ("a", "b")), ("setting", ("a", "b")))

    def test_no_kind_is_put_where_another_one_has_to_be(self):
        counters = ((("a", "b"), None), (("a",), None))
        self.assert_like(setting_for(counters, ("a", "b")), ("setting", ("b", "a")))
        counters = ((("a", "b", "c"), None), (("a", "b"), None), (("a",), None))
        self.assert_like(setting_for(counters, ("a", "b", "c")), ("setting", ("c", "b", "a")))

    def test_more_kinds_than_counters(self):
        kinds = tuple("abcdefghijklmnopqrstuvwxyz")
        for many in range(1, 4):
            counters = ((kinds, None),) * many
            for more in range(many + 1, 27):
                told = setting_for(counters, kinds[:more])
                self.assertEqual(told[0], "short")
                self.assertTrue(plain.is_short(counters, kinds[:more], told[1]))
            self.assert_like(setting_for(counters, kinds[:many]), ("setting", kinds[:many]))

    def test_very_many_kinds(self):
        kinds = tuple(sorted("".join(letters) for letters in itertools.product("abcdefgh", repeat=3)))
        told = setting_for(COUNTERS[1], kinds)
        self.assertEqual(told[0], "short")
        self.assertTrue(plain.is_short(COUNTERS[1], kinds, told[1]))

    def test_a_kind_on_which_no_counter_can_be_put(self):
        counters = ((("x", "y"), None), (("y",), 4))
        for kinds in (("z",), ("x", "z"), ("y", "z"), ("a", "x", "y")):
            told = setting_for(counters, kinds)
            self.assertEqual(told[0], "short")
            self.assertTrue(plain.is_short(counters, kinds, told[1]))


class TestShowsShort(FitTest):
    def assert_judged(self, counters, kinds, value):
        before = repr((counters, kinds, value))
        wanted = plain.is_short(counters, kinds, value)
        self.assertIs(shows_short(counters, kinds, value), wanted, (counters, kinds, value))
        self.assertEqual(repr((counters, kinds, value)), before)
        return wanted

    def test_all_tuples_of_kinds(self):
        verdicts = []
        for counters in MANY[:-1]:
            for kinds in KINDS:
                for value in KINDS:
                    verdicts.append(self.assert_judged(counters, kinds, value))
        self.assertGreater(verdicts.count(True), 500)

    def test_any_value(self):
        for counters in MANY:
            for kinds in ((), ("x",), ("a", "b", "c", "d"), ("none", "x", "y", "z")):
                for value in ANY_VALUES:
                    self.assert_judged(counters, kinds, value)
                    self.assert_judged(counters, kinds, (value,))

    def test_with_one_part_otherwise(self):
        counters, kinds = ((("x", "y"), None), (("y",), 4)), ("a", "b", "x", "y", "z")
        for short in (("z",), ("a", "x"), ("a", "b", "x"), ("x", "y", "z"), kinds):
            self.assertIs(shows_short(counters, kinds, short), True)
            for value in twists(short):
                self.assert_judged(counters, kinds, value)

    def test_some_of_these_kinds_alone(self):
        counters = ((("x", "y"), None),)
        self.assertIs(shows_short(counters, ("x", "y"), ("x", "y")), True)
        self.assertIs(shows_short(counters, ("x", "z"), ("x", "y")), False)
        self.assertIs(shows_short(counters, ("x",), ("z",)), False)
        self.assertIs(shows_short(counters, ("z",), ("z",)), True)
        self.assertIs(shows_short(counters, (), ()), False)

    def test_more_than_the_counters_that_can_be_on_one_of_them(self):
        counters = ((("x",), None), (("x", "y"), None), (("y", "z"), None))
        kinds = ("w", "x", "y", "z")
        for value, told in ((("x",), False), (("x", "y", "z"), False), (("w",), True), (("w", "x"), False),
                            (("w", "z"), True), (("w", "y"), False), (("w", "x", "y", "z"), True), ((), False)):
            self.assertIs(shows_short(counters, kinds, value), told, value)

    def test_ascending_and_a_tuple(self):
        counters, kinds = ((("x", "y"), None),), ("x", "y", "z")
        for value in (("y", "x"), ("x", "x"), ("z", "z"), ["z"], "z", {"z": 1}, ("short", ("z",)), (("z",),), None, True):
            self.assertIs(shows_short(counters, kinds, value), False)


class TestErrors(FitTest):
    def test_no_counters(self):
        wrong = [value for value in ANY_VALUES + list(twists(COUNTERS[1])) if not plain.is_counters(value)]
        for value in wrong:
            self.assert_raises_just(BadCounters, value, is_setting, value, ("x", "y"))
            self.assert_raises_just(BadCounters, value, setting_for, value, ("x", "y"))
            self.assert_raises_just(BadCounters, value, shows_short, value, ("x", "y"), ("x",))

    def test_no_kinds(self):
        counters = COUNTERS[1]
        wrong = [value for value in ANY_VALUES + list(twists(("x", "y"))) if not plain.is_kinds(value)]
        for value in wrong:
            self.assert_raises_just(BadKinds, value, setting_for, counters, value)
            self.assert_raises_just(BadKinds, value, shows_short, counters, value, ("x",))
        for value in (("y", "x"), ("x", "x"), ["x"], "x", ("x", None), ("X",), ("abcdefghi",), None, {"x": 1}, (1,)):
            self.assert_raises_just(BadKinds, value, setting_for, counters, value)
            self.assert_raises_just(BadKinds, value, shows_short, counters, value, ())

    def test_right_kinds_raise_nothing(self):
        for value in list(twists(("x", "y"))) + [(), ("q",), ("a", "b", "c", "d", "e", "f")]:
            if plain.is_kinds(value):
                self.assertIn(setting_for(COUNTERS[1], value)[0], ("setting", "short"))
                self.assertIn(shows_short(COUNTERS[1], value, None), (False,))

    def test_counters_come_first(self):
        for counters in (None, (), [], ((("x",), 1),), ((("x",), None),) * 4):
            self.assert_raises_just(BadCounters, counters, is_setting, counters, [])
            self.assert_raises_just(BadCounters, counters, setting_for, counters, ["x"])
            self.assert_raises_just(BadCounters, counters, shows_short, counters, ["x"], None)

    def test_a_wrong_setting_or_short_set_raises_nothing(self):
        for value in ANY_VALUES:
            self.assertIn(is_setting(COUNTERS[0], value), (True, False))
            self.assertIs(shows_short(COUNTERS[0], ("x",), value), False)


class TestCalls(FitTest):
    def test_equal_calls_return_equal_results(self):
        for counters in MANY:
            for kinds in KINDS:
                told = setting_for(counters, kinds)
                again = setting_for(eval(repr(counters)), eval(repr(kinds)))
                self.assertTrue(is_like(told, again))


if __name__ == "__main__":
    unittest.main()
