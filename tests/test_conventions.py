"""The conventions [2, 3] and the beginning of the interface, for each function."""

import copy
import importlib
import inspect
import itertools
import unittest

from copyover.errors import (CopyError, InvalidContents, InvalidCopy, InvalidFolders, InvalidGroup, InvalidHaving,
                             InvalidHeads, InvalidLength, InvalidLists, InvalidName, InvalidNumber, InvalidReports,
                             InvalidScript, InvalidTimes, InvalidWanted, InvalidWords, NotList)
from tests.helper import (CONTENTS, FOLDERS, TURN, TWENTY, Case, foreign_scripts, inner, not_strings, odd_values,
                          wrong_contents, wrong_copies, wrong_folders, wrong_groups, wrong_having, wrong_heads,
                          wrong_integers, wrong_lists, wrong_lists_of, wrong_of_folders, wrong_reports, wrong_scripts)

# The good values of each parameter of FOLDERS, and many wrong ones with the error that they raise.
GOOD = {
    "folders": FOLDERS, "copies": TURN, "other": TURN[::-1], "name": "b", "having": ("c", "b"), "contents": CONTENTS,
    "copy": ("over", "a", "c"), "other_copy": ("skip", "b", "c"), "value": CONTENTS,
    "lists": {"a": ["b", "a"], "b": ["a", "c", "b"], "c": ["a", "c"]},
    "other_lists": {"a": ["a"], "b": ["c", "b"], "c": ["c"]}, "times": 5,
    "wanted": ("c", "a", "b"), "group": ("b", "c"), "heads": {"a": "b", "b": "a", "c": "d", "d": "d"},
    "length": 2, "number": 3, "reports": ((("a", "c"), "a"), (("b", "a"), "b"), (("c",), "c")),
}
# The good values of those parameters that differ from function to function.
GOOD_VALUES = {"list_number": ["c", "b"], "is_trimmed": TURN, "is_contradiction": ("ring", (0, 1))}
GOOD_TEXTS = {"parse_script": "a>c b+a c>b", "parse_lists": "a: b c a\nb: b\nc: a c"}
WRONG = {
    "folders": (InvalidFolders, wrong_folders), "copies": (InvalidScript, wrong_scripts),
    "other": (InvalidScript, wrong_scripts), "name": (InvalidName, wrong_of_folders),
    "having": (InvalidHaving, wrong_having), "contents": (InvalidContents, wrong_contents),
    "copy": (InvalidCopy, wrong_copies), "other_copy": (InvalidCopy, wrong_copies),
    "lists": (InvalidLists, wrong_lists), "other_lists": (InvalidLists, wrong_lists),
    "times": (InvalidTimes, lambda: wrong_integers(0, 10 ** 30)), "wanted": (InvalidWanted, wrong_folders),
    "group": (InvalidGroup, wrong_groups), "heads": (InvalidHeads, wrong_heads),
    "length": (InvalidLength, lambda: wrong_integers(1, 3)), "number": (InvalidNumber, lambda: wrong_integers(0, 3)),
    "reports": (InvalidReports, wrong_reports), "text": (InvalidWords, lambda: not_strings() + ["a", " ", "a:b", "\n"]),
}
WRONG_VALUES = {"list_number": (NotList, lambda: wrong_lists_of("b"))}
INTERFACE = {
    "copies": {
        "is_copy": ("value",), "is_script": ("value",), "lists_of": ("folders", "copies"),
        "list_of": ("folders", "copies", "name"), "heads_of": ("folders", "copies"),
    },
    "contents": {
        "are_contents": ("value",), "run": ("contents", "copies"), "winner": ("folders", "copies", "name", "having"),
    },
    "alike": {
        "do_same": ("folders", "copies", "other"), "telling_contents": ("folders", "copies", "other"),
        "commute": ("copy", "other_copy"),
    },
    "repeats": {
        "joined": ("lists", "other_lists"), "lists_after": ("folders", "copies", "times"),
        "settling": ("folders", "copies"),
    },
    "plans": {
        "fewest_shared": ("wanted", "group"), "plan_shared": ("wanted", "group"), "are_possible": ("heads",),
        "fewest_for_heads": ("heads",), "plan_for_heads": ("heads",),
    },
    "counting": {
        "count_lists": ("folders", "name", "length"), "nth_list": ("folders", "name", "length", "number"),
        "list_number": ("folders", "name", "value"),
    },
    "trimming": {
        "idle_copies": ("folders", "copies"), "trimmed": ("folders", "copies"),
        "is_trimmed": ("folders", "copies", "value"),
    },
    "reports": {
        "contradiction": ("folders", "name", "reports"), "explaining_list": ("folders", "name", "reports"),
        "is_contradiction": ("folders", "name", "reports", "value"),
    },
    "texts": {
        "format_script": ("copies",), "parse_script": ("text",), "format_lists": ("lists",), "parse_lists": ("text",),
    },
}


def functions():
    """Return each function of the interface with its parameters."""
    found = []
    for module, names in INTERFACE.items():
        for name, parameters in names.items():
            found.append((getattr(importlib.import_module(f"copyover.{module}"), name), parameters))
    return found


def good_values(function, parameters):
    """Return new good values of the parameters of a function."""
    good = {**GOOD, "value": GOOD_VALUES.get(function.__name__, GOOD["value"]),
            "text": GOOD_TEXTS.get(function.__name__)}
    return [copy.deepcopy(good[parameter]) for parameter in parameters]


def wrong_kind(function, parameter):
    """Return the error for wrong values of a parameter and a function that makes some, or None if none is wrong."""
    if parameter == "value":
        return WRONG_VALUES.get(function.__name__)
    return WRONG[parameter]


def turned(value):
    """Return a value in which the keys of each dict stand the other way round."""
    if isinstance(value, dict):
        return {key: turned(value[key]) for key in reversed(value)}
    return value


class Interface(Case):
    def test_each_function_is_defined_in_its_file(self):
        for module, names in INTERFACE.items():
            for name in names:
                function = getattr(importlib.import_module(f"copyover.{module}"), name)
                self.assertTrue(inspect.isfunction(function))
                self.assertEqual((function.__name__, function.__module__), (name, f"copyover.{module}"))

    def test_names_of_the_parameters(self):
        for function, parameters in functions():
            self.assertEqual(tuple(inspect.signature(function).parameters), parameters)

    def test_by_position_and_by_name(self):
        for function, parameters in functions():
            values = good_values(function, parameters)
            answer = function(*values)
            named = dict(zip(parameters, values))
            self.assertEqual(function(**named), answer)
            self.assertEqual(function(**dict(reversed(named.items()))), answer)
            for many in range(len(values)):
                rest = {parameter: named[parameter] for parameter in parameters[many:]}
                self.assertEqual(function(*values[:many], **rest), answer)


class Arguments(Case):
    def test_stay_as_they_are(self):
        for function, parameters in functions():
            values = good_values(function, parameters)
            before = repr(values)
            function(*values)
            self.assertEqual(repr(values), before)

    def test_stay_as_they_are_behind_an_error(self):
        for function, parameters in functions():
            for parameter in parameters:
                if wrong_kind(function, parameter) is None:
                    continue
                values, place = good_values(function, parameters), parameters.index(parameter)
                values[place] = {"a": {"y": "1", "x": []}}
                before = repr(values)
                self.assertRaises(CopyError, function, *values)
                self.assertEqual(repr(values), before)
                values[place] = good_values(function, parameters)[place]
                self.assertEqual(function(*values), function(*good_values(function, parameters)))

    def test_no_part_of_an_argument_is_returned(self):
        for function, parameters in functions():
            values = good_values(function, parameters)
            parts = [id(part) for value in values for part in inner(value)]
            self.assertFalse([part for part in inner(function(*values)) if id(part) in parts])

    def test_contents_that_are_changed_later(self):
        run = importlib.import_module("copyover.contents").run
        for script in ((), TURN, (("over", "b", "c"),), (("skip", "a", "c"),)):
            contents = copy.deepcopy(CONTENTS)
            behind = run(contents, script)
            kept = copy.deepcopy(behind)
            for files in contents.values():
                files["new"] = "9"
            contents["d"] = {}
            self.assertEqual(behind, kept)
            self.assertEqual(run(CONTENTS, script), kept)
            for files in behind.values():
                files["newer"] = "8"
            self.assertEqual(contents["a"], {"x": "1", "new": "9"})


class Results(Case):
    def test_equal_calls_return_equal_and_new_results(self):
        for function, parameters in functions():
            values = good_values(function, parameters)
            first, second, third = function(*values), function(*values), function(*good_values(function, parameters))
            self.assertEqual(repr(first), repr(second))
            self.assertEqual(repr(first), repr(third))
            parts = inner(first) + inner(second) + inner(third)
            self.assertEqual(len({id(part) for part in parts}), len(parts), function.__name__)

    def test_results_that_are_changed_later(self):
        for function, parameters in functions():
            first = function(*good_values(function, parameters))
            kept = copy.deepcopy(first)
            for part in inner(first):
                part.clear()
            self.assertEqual(function(*good_values(function, parameters)), kept)

    def test_inner_lists_and_dicts_are_different_ones(self):
        module = importlib.import_module("copyover.copies")
        for script in ((), (("over", "a", "b"), ("over", "a", "c")), (("over", "a", "b"), ("skip", "b", "a")) * 2):
            lists = module.lists_of(FOLDERS, script)
            self.assertEqual(len({id(names) for names in lists.values()}), 3)
            lists["b"].append("z")
            self.assertNotIn("z", lists["a"] + lists["c"])
        run = importlib.import_module("copyover.contents").run
        contents = dict.fromkeys(TWENTY, {"x": "1"})
        for script in ((), (("over", "a", "b"), ("skip", "b", "c"))):
            self.assertEqual(len({id(files) for files in run(contents, script).values()}), 20)
        telling = importlib.import_module("copyover.alike").telling_contents
        self.assertEqual(len({id(files) for files in telling(TWENTY, TURN, ()).values()}), 20)

    def test_keys_ascend(self):
        for function, parameters in functions():
            values = dict(zip(parameters, good_values(function, parameters)))
            if "folders" in values:
                values["folders"] = ("zz", "c", "aa", "b", "a", "ab")
            for name in ("lists", "other_lists", "heads"):
                if name in values:
                    values[name] = turned(values[name])
            if "contents" in values:
                values["contents"] = {"zz": {"y": "1", "x": "2"}, "b": {"x": "3"}, "a": {}, "c": {"z": "4", "b": "5"}}
            self.check_ascending(function(**values))

    def test_order_of_the_keys_of_a_dict_does_not_matter(self):
        for function, parameters in functions():
            values = good_values(function, parameters)
            self.assertEqual(repr(function(*[turned(value) for value in values])), repr(function(*values)))

    def test_good_values_raise_no_error_somewhat_beyond_the_limits(self):
        module = importlib.import_module("copyover.contents")
        contents = {"a": {"x": "t" * 10000}, "b": {}}
        self.assertEqual(module.run(contents, (("skip", "a", "b"),)), {"a": contents["a"], "b": contents["a"]})


class Errors(Case):
    def test_each_wrong_argument(self):
        for function, parameters in functions():
            for place, parameter in enumerate(parameters):
                if wrong_kind(function, parameter) is None:
                    continue
                error, make = wrong_kind(function, parameter)
                for value in make():
                    values = good_values(function, parameters)
                    values[place] = value
                    self.check_raises(error, function, *values)
                    self.check_raises(error, function, **dict(zip(parameters, values)))

    def test_scripts_of_other_folders(self):
        for function, parameters in functions():
            for place, parameter in enumerate(parameters):
                if parameter not in ("copies", "other") or parameters == ("copies",):
                    continue
                for script in foreign_scripts():
                    values = good_values(function, parameters)
                    values[place] = script
                    self.check_raises(InvalidScript, function, *values)

    def test_the_first_of_two_wrong_arguments(self):
        for function, parameters in functions():
            for first, second in itertools.combinations(range(len(parameters)), 2):
                error, make = wrong_kind(function, parameters[first])
                _, make_other = wrong_kind(function, parameters[second]) or (None, odd_values)
                for value, other in itertools.product(make()[::25], make_other()[::25]):
                    values = good_values(function, parameters)
                    values[first], values[second] = value, other
                    self.check_raises(error, function, *values)

    def test_all_arguments_wrong(self):
        for function, parameters in functions():
            if parameters == ("value",):
                continue
            for wrong in (None, 0, True, " ", b"", ["a"], {1}, object()):
                self.check_raises(WRONG[parameters[0]][0], function, *[wrong] * len(parameters))


if __name__ == "__main__":
    unittest.main()
