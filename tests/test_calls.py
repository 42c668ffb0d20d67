"""What holds of every function: lists for tuples, names, nothing changed, new lists, tuples in what is told."""

import importlib
import unittest

from tests.calls import CALLS, LISTS
from tests.support import MODULES, answer, half_listed, kept, listed, strictly
from tests.test_interface import INTERFACE


def function_named(name):
    for module in MODULES:
        own = importlib.import_module("ringkiln." + module)
        if hasattr(own, name) and getattr(own, name).__module__ == own.__name__:
            return getattr(own, name)
    raise KeyError(name)


def converted(values, by):
    return {name: value if name == "thing" else by(value) for name, value in values.items()}


def parameters_of(name):
    code = function_named(name).__code__
    return code.co_varnames[:code.co_argcount]


def by_place(name, values):
    return answer(function_named(name), *[values[parameter] for parameter in parameters_of(name)])


def by_name(name, values):
    backwards = dict(reversed(list(values.items())))
    return answer(lambda: function_named(name)(**backwards))


def holds_list(value):
    return isinstance(value, list) or isinstance(value, tuple) and any(holds_list(part) for part in value)


class EveryFunction(unittest.TestCase):
    def for_every_call(self, check):
        for name, calls in CALLS.items():
            for place, values in enumerate(calls):
                with self.subTest(name=name, call=place):
                    check(name, values)

    def assert_same(self, one, other):
        self.assertTrue(strictly(one, other), f"{one!r}\n{other!r}")

    def test_all_functions_are_called(self):
        names = [told.split("(")[0] for text in INTERFACE.values() for told in text.split()]
        self.assertEqual(sorted(names), sorted(CALLS))

    def test_lists_for_tuples_at_every_depth(self):
        def check(name, values):
            for by in (listed, half_listed, lambda value: half_listed(value, 1)):
                self.assert_same(by_place(name, converted(values, by)), by_place(name, values))
        self.for_every_call(check)

    def test_by_names(self):
        def check(name, values):
            self.assert_same(by_name(name, values), by_place(name, values))
            self.assert_same(by_name(name, converted(values, listed)), by_place(name, values))
        self.for_every_call(check)

    def test_again_the_same(self):
        def check(name, values):
            self.assert_same(by_place(name, values), by_place(name, values))
        self.for_every_call(check)

    def test_arguments_stay_as_they_were(self):
        def check(name, values):
            for own in (values, converted(values, listed)):
                before = kept(own)
                by_place(name, own)
                for key in before:
                    self.assert_same(own[key], before[key])
        self.for_every_call(check)

    def test_tuples_are_made_of_tuples(self):
        def check(name, values):
            found = by_place(name, converted(values, listed))
            self.assertFalse(any(holds_list(part) for part in found) if name in LISTS else holds_list(found))
        self.for_every_call(check)

    def test_returned_lists_are_new(self):
        def check(name, values):
            found = by_place(name, values)
            if name in LISTS and not isinstance(found, tuple):
                self.assertIs(type(found), list)
                before = kept(found)
                found.append("more")
                again = by_place(name, values)
                self.assertIsNot(again, found)
                self.assert_same(again, before)
        self.for_every_call(check)


if __name__ == "__main__":
    unittest.main()
