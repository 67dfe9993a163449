"""Values and checks that several tests use."""

import copy
import itertools
import unittest

from copyover.errors import CopyError

FOLDERS = ("a", "b", "c")
TURN = (("over", "a", "c"), ("over", "b", "a"), ("over", "c", "b"))
CONTENTS = {"a": {"x": "1"}, "b": {"x": "2", "y": "3"}, "c": {}}

TWENTY = tuple("abcdefghijklmnopqrst")
TWENTY_ONE = TWENTY + ("u",)

PATH_SIGNS = "abcdefghijklmnopqrstuvwxyz0123456789./"
LONG_PATH = "a/b.c0123456789wxyz9"
# The neighbours of a to z, 0 to 9, "." and "/", and letters and digits that other alphabets have.
STRANGE_SIGNS = ("A", "Z", "`", "{", ":", "-", " ", "\n", "_", "%", "~", "\\", "\t", "\x00",
                 "\u00e9", "\u00df", "\u00aa", "\u0430", "\uff41", "\u00b2", "\u0663", "\u2170")
WRONG_NAMES = (["", "abcdefghi", "a" * 300, "a\n", "\na", "a b", " a", "a ", "aB", "A", "a1", "1", "a.", "a/b"]
               + list(STRANGE_SIGNS) + ["a" + sign for sign in STRANGE_SIGNS])


class Agreeable:
    """Says of itself that it equals everything."""

    def __eq__(self, other):
        return True

    def __ne__(self, other):
        return False

    def __hash__(self):
        return hash("a")


class Unhashable:
    """Equals everything and cannot be a key."""

    __hash__ = None

    def __eq__(self, other):
        return True


def deep(levels, make):
    """Return an empty value nested so many levels deep."""
    value = make([])
    for _ in range(levels - 1):
        value = make([value])
    return value


def odd_values():
    """Return values of all kinds, none of which is folders, a copy, contents, or a name of FOLDERS."""
    return [
        None, True, False, 0, 1, -7, 10 ** 59, "", "A", "ab ", "over", "skip", "x" * 3000, "a\nb",
        b"", b"a", b"over", [], {}, set(), {"a"}, frozenset(("a", "b")), object(), Agreeable(), Unhashable(),
        str, len, range(3), iter(()), NotImplemented, [None], (None,), {None: None}, {"a": None}, {"a": []},
        {1: {}}, {(): {}}, {b"a": {}}, ["a"], ["a", "b", "c"], ("a", "a"), ("a", 1), ("a", True), ("a", None),
        (b"a",), (["a"],), (("a",),), ({"a": 1},), ({"a"},), (Agreeable(),), (Unhashable(),), [("over", "a", "b")],
        deep(20, tuple), deep(20, list), deep(20, lambda parts: dict.fromkeys(["a"] * len(parts), *parts)),
    ]


def wrong_folders():
    """Return values that are not folders."""
    tuples = [(), ("a", "b", "a"), ("b", "b"), TWENTY_ONE, ("a", ""), ("a", "b", ["c"]), ("a", "b", ("c",)),
              ("a", Agreeable()), ("a", Unhashable()), ("a",) * 20]
    names = [("a", name) for name in WRONG_NAMES] + [(name,) for name in WRONG_NAMES]
    others = ["a", "abc", "c", {"a": 1}, {"a": {}}, list(FOLDERS), set(FOLDERS), iter(FOLDERS), b"abc"]
    return odd_values() + tuples + names + others


def wrong_copies():
    """Return values that are not copies."""
    return odd_values() + [
        (), ("over",), ("over", "a"), ("over", "a", "b", "c"), ("over", "a", "b", None), ("a", "b"), ("a", "b", "c"),
        ["over", "a", "b"], "over", "oab", ("over", "a", "a"), ("skip", "b", "b"), ("skip", "abcdefgh", "abcdefgh"),
        ("Over", "a", "b"), ("OVER", "a", "b"), ("over ", "a", "b"), ("over\n", "a", "b"), ("ove", "a", "b"),
        ("", "a", "b"), ("o", "a", "b"), (">", "a", "b"), ("+", "a", "b"), (b"over", "a", "b"),
        (None, "a", "b"), (True, "a", "b"), (0, "a", "b"), (["over"], "a", "b"), (("over",), "a", "b"),
        ({"over": 1}, "a", "b"), (("over", "skip"), "a", "b"), (Agreeable(), "a", "b"), (Unhashable(), "a", "b"),
        ("over", None, "b"), ("over", "a", None), ("over", 1, "b"), ("over", "a", True), ("over", b"a", "b"),
        ("over", "a", b"b"), ("over", ["a"], "b"), ("over", "a", ["b"]), ("over", ("a",), "b"), ("over", "a", {"b": 1}),
        ("over", Agreeable(), "b"), ("over", "a", Agreeable()), ("over", "a", Unhashable()), ("a", "over", "b"),
        ("a", "b", "over"), (("over", "a", "b"),), {"over": 1, "a": 2, "b": 3}, {"over", "a", "b"},
        iter(("over", "a", "b")),
    ] + [("over", name, "b") for name in WRONG_NAMES] + [("skip", "a", name) for name in WRONG_NAMES]


def wrong_scripts():
    """Return values that are not scripts."""
    good = ("over", "a", "b")
    return odd_values() + [
        good, [good], [], {good: 1}, {good}, frozenset((good,)), iter((good,)), "a>b", "", (good,) * 201,
        (good,) * 300, ((good,),), ([good],), (list(good),), (good, list(good)), (good, good[:2]), (good, ()),
        (good, None), (None, good), (good, (good,)), good + (good,),
    ] + [(good, value) for value in wrong_copies()] + [(value, good) for value in wrong_copies()]


def foreign_scripts():
    """Return scripts that are none of FOLDERS, since they copy other folders."""
    return [(("over", "a", "d"),), (("over", "d", "a"),), (("skip", "x", "y"),), (("skip", "a", "aa"),),
            TURN + (("over", "b", "d"),), (("over", "d", "b"),) + TURN,
            (("over", "a", "b"),) * 199 + (("skip", "d", "c"),)]


def wrong_paths():
    """Return values that are not paths."""
    strings = ["", LONG_PATH + "1", "a" * 21, "a" * 300, "x\n", "\nx", "x y", " x", "x ", "X"] + list(STRANGE_SIGNS)
    return strings + ["x" + sign for sign in STRANGE_SIGNS] + [None, 0, True, b"x", (), ("x",), Agreeable()]


def wrong_contents():
    """Return values that are not contents."""
    texts = [None, 0, 1, True, b"1", [], ["1"], ("1",), {}, {"1"}, object(), Agreeable(), Unhashable()]
    files = [None, 0, True, "", "x", b"", [], ["x"], [("x", "1")], (), ("x",), (("x", "1"),), {"x"}, set(), object(),
             Agreeable(), Unhashable(), many_files(41), many_files(300), iter({})]
    return odd_values() + [
        {}, (), [("a", {})], (("a", {}),), ("a",), "a", {name: {} for name in TWENTY_ONE},
        {"a": {}, "b": {}, "c": {}, 1: {}}, {True: {}}, {None: {}}, {("a",): {}}, {Agreeable(): {}},
    ] + [{name: {}} for name in WRONG_NAMES] + [{"a": {}, name: {}} for name in WRONG_NAMES] + [
        {"a": {"x": text}} for text in texts] + [{"a": {}, "b": {"y": "1", "x": text}} for text in texts] + [
        {"a": value} for value in files] + [{"a": {}, "b": value, "c": {}} for value in files] + [
        {"a": {path: "1"}} for path in wrong_paths()] + [{"a": {}, "b": {"x": "", path: "1"}} for path in wrong_paths()]


def wrong_of_folders():
    """Return values that are not one of FOLDERS."""
    return odd_values() + ["d", "ab", "abc", "aa", "A", "a ", "a\n", "", (), ("a",), ["a"], {"a": 1}, b"a", FOLDERS]


def wrong_having():
    """Return values that are not a tuple of different ones of FOLDERS."""
    return odd_values() + [
        "", "a", "abc", [], ["a"], {}, {"a": 1}, {"a"}, set(), frozenset(("a",)), iter(("a",)), None,
        ("d",), ("a", "d"), ("d", "a"), ("a", "a"), ("a", "b", "c", "a"), ("ab",), ("",), ("A",),
        ("a", "a\n"), (FOLDERS,), (["a"],), ("a", "b", None), (b"a",), FOLDERS + ("d",),
    ]


def lists_of_names(names):
    """Return the lists that some folders have at first."""
    return {name: [name] for name in names}


def wrong_lists():
    """Return values that are not lists."""
    own = [None, 0, True, "", "a", "ab", b"a", (), ("a",), ("a", "b"), {}, {"a": 1}, {"a"}, iter(("a",)), [], ["b"],
           ["b", "c"], ["a", "a"], ["a", "b", "a"], ["b", "b", "a"], ["a", "d"], ["d", "a"], ["a", None], ["a", 1],
           ["a", b"b"], ["a", "B"], ["a", ""], ["a", ["b"]], [["a"]], [("a",)], ["a", ("b", "c")], ["a", {"b": 1}],
           ["ab"], [None], [True], [1], object(), Agreeable(), Unhashable(), [Agreeable()], ["a", Agreeable()],
           ["a", Unhashable()], ["a", "b", "c", "b"], ["a", "b", "c", "d"], ["a"] * 300]
    keys = WRONG_NAMES + [1, True, None, b"d", ("d",), (), Agreeable()]
    return odd_values() + [
        {}, [], (), "", [["a"]], [("a", ["a"])], (("a", ["a"]),), FOLDERS, ["a"], "a: a", lists_of_names(TWENTY_ONE),
        {"a": ["a"], "b": ["a"]}, {"a": ["a"], "b": []}, {"a": ["b"], "b": ["a"]}, {"a": ["b", "a"]},
        {"a": [["a"]], "b": ["b"]}, {"a": {"a": ["a"]}},
    ] + [{"a": value, "b": ["b"], "c": ["c"]} for value in own] + [
        {"b": ["b"], "c": ["b", "c"], "a": value} for value in own] + [
        {"a": ["a"], key: [key]} for key in keys] + [{key: ["a"], "a": ["a"]} for key in keys]


def wrong_heads():
    """Return values that are not heads."""
    others = ["d", "", "A", "ab", "a ", "a\n", None, 0, 1, True, b"a", [], ["a"], (), ("a",), {}, {"a": 1}, {"a"},
              object(), Agreeable(), Unhashable()]
    keys = WRONG_NAMES + [1, True, None, b"d", ("d",), ()]
    return odd_values() + [
        {}, [], (), "", "ab", {Agreeable(): "a"}, {"b": "b", Agreeable(): "b"}, ["a", "b"], [("a", "a")], (("a", "a"),), {"a"}, {name: name for name in TWENTY_ONE},
        {name: "a" for name in TWENTY_ONE}, {"a": "b"}, {"a": "b", "c": "c"}, {"a": ["b"], "b": ["b"]},
    ] + [{"a": "b", "b": "a", "c": value} for value in others] + [{"c": value, "a": "a", "b": "c"} for value in others] + [
        {"a": "a", key: "a"} for key in keys] + [{key: key, "a": "a"} for key in keys]


def wrong_groups():
    """Return values that are not a tuple of one or more different ones of FOLDERS."""
    return wrong_having() + [()]


def wrong_integers(least, most):
    """Return values that are not an integer from least to most."""
    beyond = [least - 1, least - 2, -most, -10 ** 30, most + 1, most + 2, 10 ** 59, 10 ** 60 - 1, -10 ** 59]
    numbers = [str(least), str(most), [least], (least,), {least}, {least: least}, b"1", range(least, most)]
    kinds = [value for value in odd_values() if type(value) is not int]
    return kinds + numbers + [value for value in beyond if not least <= value <= most]


def wrong_lists_of(name):
    """Return values that are not a list of one of FOLDERS."""
    other = "abc".replace(name, "")
    kinds = [value for value in odd_values() if type(value) is not list or name not in value]
    return kinds + [
        name, (name,), {name: 1}, {name}, (name, other[0]), FOLDERS, "abc", iter((name,)), {name: [name]}, [],
        [other[0]], list(other), list(other[::-1]), [name, name], [name, other[0], name], [other[0], other[0], name],
        [name, "d"], ["d", name], list("abcd"), list("abca"), [name] * 300, [[name]], [(name,)], [name, [other[0]]],
        [name, None], [name, 1], [name, True], [None, name], [name, b"a"], [name, ""], [name, "A"], [name, name + " "],
        [name, Agreeable()], [Agreeable()], [Agreeable(), name], [name, Unhashable()], [name + other],
    ]


def not_strings():
    """Return values of all kinds but strings."""
    return [value for value in odd_values() if not isinstance(value, str)] + [(), ("a",), [("over", "a", "b")]]


def wrong_reports():
    """Return values that are not reports with folders of FOLDERS."""
    good = (("a", "b"), "a")
    having = [(), ["a"], {"a"}, {"a": 1}, "a", "ab", b"a", None, 0, True, ("d",), ("a", "d"), ("a", "a"),
              ("a", "b", "a"), ("a", None), ("a", 1), ("a", b"b"), ("a", ["b"]), (("a", "b"),), ("a", "A"), ("a", ""),
              ("a", "a "), iter(("a",)), object(), Agreeable(), Unhashable(), ("a", Agreeable()), ("a", Unhashable()),
              FOLDERS * 2]
    seen = ["c", "d", "", "A", "ab", "a ", "a\n", 0, 1, True, False, b"a", [], ["a"], (), ("a",), {}, {"a": 1}, {"a"},
            object(), Agreeable(), Unhashable()]
    reports = [(), ("a",), (("a", "b"),), (("a", "b"), "a", None), (("a", "b"), "a", "b"), [("a", "b"), "a"], None,
               "ab", ("a", ("a", "b")), ("a", "b"), ("a", "a"), {("a", "b"): "a"}, {"a", "b"}, (good,),
               (good, good), 0, True, Agreeable(), Unhashable(), iter(good)]
    reports = reports + [(value, "a") for value in having] + [(value, None) for value in having]
    reports = reports + [(("b", "a"), value) for value in seen]
    return odd_values() + [
        good, [], [good], {}, {good}, {good: 1}, {0: good}, iter((good,)), iter(()), (good,) * 41, (good,) * 300,
    ] + [(value,) for value in reports] + [(good, value) for value in reports] + [(value, good) for value in reports]


def many_files(number):
    """Return so many files of a folder."""
    return {f"f{index}": f"text {index}" for index in range(number)}


def all_copies(folders):
    """Return all copies of some folders."""
    return [(word, source, target) for word in ("over", "skip")
            for source, target in itertools.permutations(folders, 2)]


def all_scripts(folders, length):
    """Return all scripts of some folders with so many copies or fewer."""
    return [script for number in range(length + 1)
            for script in itertools.product(all_copies(folders), repeat=number)]


class Numbers:
    """Numbers without a pattern, the same ones in each run."""

    def __init__(self, start):
        self.state = start

    def below(self, limit):
        self.state = (self.state * 6364136223846793005 + 1442695040888963407) % 2 ** 64
        return (self.state >> 33) % limit

    def script(self, folders, length):
        copies = all_copies(folders)
        return tuple(copies[self.below(len(copies))] for _ in range(length))


def telling_all(folders):
    """Return contents that have a path for each choice of one or more folders that have it."""
    groups = [group for size in range(1, len(folders) + 1) for group in itertools.combinations(sorted(folders), size)]
    return {name: {path_of(group): name for group in groups if name in group} for name in folders}


def path_of(group):
    """Return the path that exactly a group has in telling_all."""
    return ".".join(group)


def copied(contents, script):
    """Return the contents behind a script, made by copying file by file."""
    now = copy.deepcopy(contents)
    for word, source, target in script:
        for path in now[source]:
            if word == "over" or path not in now[target]:
                now[target][path] = now[source][path]
    return now


def behind(lists, script):
    """Return the lists behind further copies, made one by one."""
    now = {name: list(names) for name, names in lists.items()}
    for word, source, target in script:
        both = now[source] + now[target] if word == "over" else now[target] + now[source]
        now[target] = sorted(set(both), key=both.index)
    return now


def ring_turn(ring, spare):
    """Return copies that give each folder of a ring the files of the next one, with the help of a spare folder."""
    turn = [("over", following, name) for name, following in zip(ring, ring[1:])]
    return (("over", ring[0], spare), *turn, ("over", spare, ring[-1]))


def inner(value):
    """Return a list or dict and all lists and dicts within it."""
    if isinstance(value, dict):
        return [value] + [part for item in value.values() for part in inner(item)]
    if isinstance(value, (list, tuple)):
        return ([value] if isinstance(value, list) else []) + [part for item in value for part in inner(item)]
    return []


class Case(unittest.TestCase):
    """A test case with the checks that several tests use."""

    def check_raises(self, error, function, *values, **named):
        """Check that a call raises an error of exactly one class."""
        with self.assertRaises(CopyError, msg=f"{function.__name__} {values!r:.300} {named!r:.300}") as caught:
            function(*values, **named)
        self.assertIs(type(caught.exception), error, f"{function.__name__} {values!r:.300} {named!r:.300}")

    def check_ascending(self, value):
        """Check that a dict and each dict within it have ascending keys."""
        for part in inner(value):
            if isinstance(part, dict):
                self.assertEqual(list(part), sorted(part))
