"""Shelves [17], and the conventions [2, 3] for them."""

import copy
import inspect
import itertools
import unittest

from copyover.alike import telling_contents
from copyover.contents import are_contents, run, winner
from copyover.copies import lists_of
from copyover.errors import (InvalidContents, InvalidName, InvalidPath, InvalidText, NothingToUndo, SameFolder,
                             TooMany)
from copyover.shelves import Shelf
from tests.helper import (CONTENTS, FOLDERS, LONG_PATH, PATH_SIGNS, TURN, TWENTY, Agreeable, Case, Numbers, all_copies,
                          inner, many_files, not_strings, odd_values, path_of, telling_all, wrong_contents,
                          wrong_of_folders, wrong_paths)

METHODS = {
    "over": ("source", "target"), "skip": ("source", "target"), "write": ("name", "path", "text"),
    "read": ("name", "path"), "undo": (), "copy_of": (),
}
PROPERTIES = ("contents_now", "script_now", "lists_now")
FULL = {"a": many_files(40), "b": {"new": "n"}, "c": {"f0": "other"}, "d": {}}


def state(shelf):
    """Return all that a shelf tells of itself, and what it tells while everything is undone."""
    twin = shelf.copy_of()
    rows = [(twin.contents_now, twin.script_now, twin.lists_now, len(twin))]
    while len(twin) > 0:
        twin.undo()
        rows.append((twin.contents_now, twin.script_now, twin.lists_now, len(twin)))
    return rows


def put_by(word, contents, source, target):
    """Return the ascending list of the paths that a copy puts."""
    return sorted(path for path in contents[source] if word == "over" or path not in contents[target])


class ShelfCase(Case):
    def check_unchanged(self, error, shelf, method, *values, **named):
        """Check that a call raises an error of exactly one class and changes nothing of the shelf."""
        before = state(shelf)
        self.check_raises(error, getattr(shelf, method), *values, **named)
        self.assertEqual(state(shelf), before)


class Interface(ShelfCase):
    def test_each_method_is_defined_in_the_class_itself(self):
        self.assertEqual((Shelf.__module__, Shelf.__name__), ("copyover.shelves", "Shelf"))
        self.assertEqual(tuple(inspect.signature(Shelf).parameters), ("contents",))
        for name, parameters in METHODS.items():
            self.assertTrue(inspect.isfunction(vars(Shelf)[name]))
            self.assertEqual(tuple(inspect.signature(vars(Shelf)[name]).parameters), ("self",) + parameters)
        for name in PROPERTIES:
            self.assertIsInstance(vars(Shelf)[name], property)
        self.assertIn("__len__", vars(Shelf))
        self.assertIn("__eq__", vars(Shelf))

    def test_by_position_and_by_name(self):
        one, two = Shelf(CONTENTS), Shelf(contents=CONTENTS)
        self.assertEqual(one.over("a", "b"), two.over(target="b", source="a"))
        self.assertEqual(one.skip("b", "c"), two.skip(source="b", target="c"))
        self.assertEqual(one.write("a", "z", "9"), two.write(text="9", path="z", name="a"))
        self.assertEqual(one.read("a", "z"), two.read(path="z", name="a"))
        self.assertEqual([two.over("c", target="a"), one.over("c", "a")], [["x", "y"], ["x", "y"]])
        self.assertEqual([two.write("a", "z", text="1"), one.write("a", "z", "1")], [None, None])
        self.assertEqual(two.read("a", path="z"), "1")
        self.assertEqual(state(one), state(two))

    def test_document(self):
        shelf = Shelf({"a": {"x": "1"}, "b": {"x": "2", "y": "3"}})
        seen = [shelf.skip("b", "a"), shelf.read("a", "x"), shelf.over("b", "a"), shelf.read("a", "x"), shelf.lists_now,
                len(shelf)]
        self.assertEqual(seen, [["y"], "1", ["x", "y"], "2", {"a": ["b", "a"], "b": ["b"]}, 2])

    def test_values_that_are_no_contents(self):
        for value in wrong_contents():
            self.check_raises(InvalidContents, Shelf, value)
            self.check_raises(InvalidContents, Shelf, contents=value)


class Copies(ShelfCase):
    def test_over_replaces_and_skip_leaves(self):
        contents = {"a": {"x": "1", "y": "2"}, "b": {"x": "3", "z": "4"}}
        shelf = Shelf(contents)
        self.assertEqual(shelf.over("a", "b"), ["x", "y"])
        self.assertEqual(shelf.contents_now, {"a": {"x": "1", "y": "2"}, "b": {"x": "1", "y": "2", "z": "4"}})
        shelf = Shelf(contents)
        self.assertEqual(shelf.skip("a", "b"), ["y"])
        self.assertEqual(shelf.contents_now, {"a": {"x": "1", "y": "2"}, "b": {"x": "3", "y": "2", "z": "4"}})

    def test_paths_ascend(self):
        files = {path: "1" for path in ("z", "a", "/", "0", "a.b", "a/b", "a0", ".")}
        for word in ("over", "skip"):
            paths = getattr(Shelf({"a": files, "b": {}}), word)("a", "b")
            self.assertEqual(paths, ["."] + ["/", "0", "a", "a.b", "a/b", "a0", "z"])
            self.assertIs(type(paths), list)

    def test_a_copy_that_puts_the_same_texts_again(self):
        shelf = Shelf({"a": {"x": "1", "y": ""}, "b": {"x": "1", "y": ""}})
        self.assertEqual(shelf.over("a", "b"), ["x", "y"])
        self.assertEqual([len(shelf), shelf.script_now], [1, (("over", "a", "b"),)])
        self.assertEqual(shelf.contents_now, {"a": {"x": "1", "y": ""}, "b": {"x": "1", "y": ""}})
        shelf.undo()
        self.assertEqual([len(shelf), shelf.script_now], [0, ()])

    def test_a_copy_that_puts_nothing(self):
        shelf = Shelf(CONTENTS)
        self.assertEqual([shelf.over("c", "a"), shelf.skip("c", "a"), shelf.skip("a", "b")], [[], [], []])
        self.assertEqual(len(shelf), 3)
        self.assertEqual(shelf.script_now, (("over", "c", "a"), ("skip", "c", "a"), ("skip", "a", "b")))
        self.assertEqual(shelf.lists_now, {"a": ["c", "a"], "b": ["b", "c", "a"], "c": ["c"]})
        self.assertEqual(shelf.contents_now, CONTENTS)
        for left in (2, 1, 0):
            shelf.undo()
            self.assertEqual(len(shelf), left)
        self.assertEqual(shelf.contents_now, CONTENTS)
        self.check_unchanged(NothingToUndo, shelf, "undo")

    def test_a_later_change_of_the_source_does_not_reach_the_target(self):
        shelf = Shelf({"a": {"x": "1"}, "b": {}})
        shelf.over("a", "b")
        shelf.write("a", "x", "2")
        shelf.write("b", "y", "3")
        self.assertEqual(shelf.contents_now, {"a": {"x": "2"}, "b": {"x": "1", "y": "3"}})

    def test_forty_files_and_the_41st(self):
        shelf = Shelf(FULL)
        for word in ("over", "skip"):
            self.check_unchanged(TooMany, shelf, word, "b", "a")
            self.check_unchanged(TooMany, shelf, word, "a", "b")
            self.assertEqual(getattr(shelf, word)("d", "a"), [])
        self.assertEqual(shelf.over("c", "a"), ["f0"])
        self.assertEqual(shelf.read("a", "f0"), "other")
        self.assertEqual(shelf.skip("c", "a"), [])
        self.assertEqual(len(shelf.over("a", "c")), 40)
        self.assertEqual(shelf.read("c", "f0"), "other")
        self.assertEqual(len(shelf.skip("a", "d")), 40)
        self.assertIs(are_contents(shelf.contents_now), True)

    def test_thirty_nine_files_and_two_more(self):
        contents = {"a": many_files(39), "b": {"g": "1"}, "c": {"g": "2", "h": "3"}, "d": {"f3": "4", "g": "5"}}
        for word in ("over", "skip"):
            shelf = Shelf(contents)
            self.check_unchanged(TooMany, shelf, word, "c", "a")
            self.assertEqual(getattr(shelf, word)("d", "a"), ["f3", "g"] if word == "over" else ["g"])
            self.assertEqual(getattr(shelf, word)("b", "a"), ["g"] if word == "over" else [])
            self.check_unchanged(TooMany, shelf, word, "c", "a")
            shelf.undo()
            shelf.undo()
            self.assertEqual(getattr(shelf, word)("b", "a"), ["g"])

    def test_wrong_folders(self):
        shelf = Shelf(CONTENTS)
        for word in ("over", "skip"):
            for value in wrong_of_folders():
                self.check_raises(InvalidName, getattr(shelf, word), value, "a")
                self.check_raises(InvalidName, getattr(shelf, word), "a", value)
                self.check_raises(InvalidName, getattr(shelf, word), value, value)
                self.check_raises(InvalidName, getattr(shelf, word), source="b", target=value)
            for name in FOLDERS:
                self.check_unchanged(SameFolder, shelf, word, name, name)
            self.check_unchanged(InvalidName, shelf, word, "d", "d")
            self.check_unchanged(InvalidName, shelf, word, None, "a")
        self.assertEqual(state(shelf), state(Shelf(CONTENTS)))

    def test_same_folder_comes_before_too_many(self):
        for word in ("over", "skip"):
            self.check_unchanged(SameFolder, Shelf(FULL), word, "a", "a")
            self.check_unchanged(InvalidName, Shelf(FULL), word, "b", "x")


class Write(ShelfCase):
    def test_new_files_and_replaced_ones(self):
        shelf = Shelf(CONTENTS)
        self.assertIsNone(shelf.write("c", "z", "9"))
        self.assertIsNone(shelf.write("a", "x", "8"))
        self.assertEqual(shelf.contents_now, {"a": {"x": "8"}, "b": {"x": "2", "y": "3"}, "c": {"z": "9"}})
        self.assertEqual(len(shelf), 2)

    def test_the_same_text_counts(self):
        shelf = Shelf(CONTENTS)
        shelf.over("a", "b")
        self.assertIsNone(shelf.write("a", "x", "1"))
        self.assertEqual([len(shelf), shelf.script_now], [2, ()])
        shelf.undo()
        self.assertEqual([len(shelf), shelf.script_now], [1, (("over", "a", "b"),)])

    def test_paths(self):
        for sign in PATH_SIGNS:
            shelf = Shelf({"a": {}})
            shelf.write("a", sign, "1")
            shelf.write("a", sign * 20, "2")
            self.assertEqual([shelf.read("a", sign), shelf.read("a", sign * 20)], ["1", "2"])
            self.check_unchanged(InvalidPath, shelf, "write", "a", sign * 21, "3")
            self.check_unchanged(InvalidPath, shelf, "read", "a", sign * 21)
        shelf = Shelf({"a": {}})
        shelf.write("a", LONG_PATH, "4")
        self.assertEqual(shelf.contents_now, {"a": {LONG_PATH: "4"}})
        self.assertEqual(len(LONG_PATH), 20)

    def test_wrong_paths(self):
        shelf = Shelf(CONTENTS)
        for value in wrong_paths() + not_strings():
            self.check_raises(InvalidPath, shelf.write, "a", value, "1")
            self.check_raises(InvalidPath, shelf.write, "a", value, None)
            self.check_raises(InvalidPath, shelf.read, "a", value)
            self.check_raises(InvalidName, shelf.write, "d", value, "1")
            self.check_raises(InvalidName, shelf.read, "d", value)
        self.assertEqual(state(shelf), state(Shelf(CONTENTS)))

    def test_texts(self):
        for text in ("", "1", "\n", "a\nb\n", " ", "Text ~!", "x" * 3000, "\n" * 3000, "x" * 5000, "None"):
            shelf = Shelf(CONTENTS)
            shelf.write("c", "x", text)
            self.assertEqual(shelf.read("c", "x"), text)
            self.assertEqual(shelf.contents_now["c"], {"x": text})
            self.assertEqual(shelf.over("c", "b"), ["x"])
            self.assertEqual(shelf.read("b", "x"), text)

    def test_wrong_texts(self):
        shelf = Shelf(FULL)
        for value in not_strings():
            self.check_raises(InvalidText, shelf.write, "b", "x", value)
            self.check_raises(InvalidText, shelf.write, "a", "x", value)
            self.check_raises(InvalidText, shelf.write, name="b", path="x", text=value)
            self.check_raises(InvalidPath, shelf.write, "b", "X", value)
            self.check_raises(InvalidName, shelf.write, "x", "x", value)
        self.assertEqual(state(shelf), state(Shelf(FULL)))

    def test_wrong_names(self):
        shelf = Shelf(CONTENTS)
        for value in wrong_of_folders():
            self.check_raises(InvalidName, shelf.write, value, "x", "1")
            self.check_raises(InvalidName, shelf.write, value, None, None)
            self.check_raises(InvalidName, shelf.read, value, "x")
            self.check_raises(InvalidName, shelf.read, value, None)
        self.assertEqual(state(shelf), state(Shelf(CONTENTS)))

    def test_forty_files_and_the_41st(self):
        shelf = Shelf(FULL)
        self.check_unchanged(TooMany, shelf, "write", "a", "new", "n")
        self.check_unchanged(TooMany, shelf, "write", "a", "f", "")
        for path in FULL["a"]:
            shelf.write("a", path, "again")
        self.assertEqual(shelf.contents_now["a"], {path: "again" for path in sorted(FULL["a"])})
        shelf = Shelf({"a": many_files(39)})
        shelf.write("a", "new", "n")
        self.check_unchanged(TooMany, shelf, "write", "a", "newer", "n")
        shelf.write("a", "new", "m")
        self.assertEqual([shelf.read("a", "new"), len(shelf.contents_now["a"])], ["m", 40])
        self.check_unchanged(InvalidPath, shelf, "write", "a", "", "n")
        self.check_unchanged(InvalidText, shelf, "write", "a", "newer", b"n")


class Read(ShelfCase):
    def test_texts_and_none(self):
        shelf = Shelf({"a": {"x": "", "y": "1"}, "b": {}})
        rows = [("a", "x", ""), ("a", "y", "1"), ("a", "z", None), ("b", "x", None), ("a", "x.", None)]
        for name, path, text in rows:
            self.assertEqual(shelf.read(name, path), text)
        self.assertEqual(len(shelf), 0)
        self.assertIsNone(shelf.read("b", LONG_PATH))


class Undo(ShelfCase):
    def test_copies_and_writes(self):
        shelf = Shelf(CONTENTS)
        steps = [shelf.contents_now]
        for method, values in (("over", ("a", "b")), ("write", ("b", "x", "7")), ("skip", ("b", "c")),
                               ("write", ("c", "w", "")), ("over", ("c", "a")), ("write", ("a", "w", "1"))):
            getattr(shelf, method)(*values)
            steps.append(shelf.contents_now)
        self.assertEqual(len({repr(step) for step in steps}), 7)
        while len(shelf) > 0:
            self.assertEqual(shelf.contents_now, steps[len(shelf)])
            self.assertIsNone(shelf.undo())
        self.assertEqual(shelf.contents_now, CONTENTS)
        self.check_unchanged(NothingToUndo, shelf, "undo")

    def test_nothing_to_undo(self):
        shelf = Shelf(CONTENTS)
        self.check_unchanged(NothingToUndo, shelf, "undo")
        shelf.write("a", "x", "9")
        shelf.undo()
        for _ in range(3):
            self.check_unchanged(NothingToUndo, shelf, "undo")
        shelf.over("a", "b")
        self.assertEqual(len(shelf), 1)

    def test_an_undone_operation_is_gone(self):
        shelf = Shelf(CONTENTS)
        shelf.over("a", "b")
        shelf.over("b", "c")
        shelf.undo()
        shelf.skip("b", "c")
        self.assertEqual(shelf.script_now, (("over", "a", "b"), ("skip", "b", "c")))
        shelf.undo()
        shelf.undo()
        self.assertEqual(shelf.contents_now, CONTENTS)

    def test_behind_a_write(self):
        shelf = Shelf(CONTENTS)
        shelf.over("a", "b")
        shelf.skip("b", "c")
        shelf.write("c", "x", "9")
        self.assertEqual([shelf.script_now, shelf.lists_now], [(), {"a": ["a"], "b": ["b"], "c": ["c"]}])
        shelf.over("c", "a")
        self.assertEqual([shelf.script_now, shelf.lists_now["a"]], [(("over", "c", "a"),), ["c", "a"]])
        shelf.undo()
        self.assertEqual(shelf.script_now, ())
        shelf.undo()
        self.assertEqual(shelf.script_now, (("over", "a", "b"), ("skip", "b", "c")))
        self.assertEqual(shelf.lists_now, {"a": ["a"], "b": ["a", "b"], "c": ["c", "a", "b"]})
        self.assertEqual(shelf.read("c", "x"), "1")

    def test_between_two_writes(self):
        shelf = Shelf(CONTENTS)
        shelf.write("a", "x", "5")
        shelf.over("a", "b")
        shelf.write("b", "x", "6")
        shelf.write("b", "x", "7")
        self.assertEqual(shelf.script_now, ())
        shelf.undo()
        self.assertEqual([shelf.script_now, shelf.read("b", "x")], [(), "6"])
        shelf.undo()
        self.assertEqual([shelf.script_now, shelf.read("b", "x")], [(("over", "a", "b"),), "5"])
        shelf.undo()
        self.assertEqual([shelf.script_now, len(shelf)], [(), 1])

    def test_errors_add_nothing_to_undo(self):
        shelf = Shelf(FULL)
        shelf.write("b", "x", "1")
        for error, method, values in ((TooMany, "over", ("b", "a")), (TooMany, "skip", ("b", "a")),
                                      (TooMany, "write", ("a", "x", "1")), (SameFolder, "over", ("b", "b")),
                                      (InvalidName, "skip", ("b", "z")), (InvalidPath, "write", ("b", "", "")),
                                      (InvalidText, "write", ("b", "x", None)), (InvalidName, "read", ("z", "x"))):
            self.check_unchanged(error, shelf, method, *values)
        self.assertEqual(len(shelf), 1)
        shelf.undo()
        self.assertEqual(shelf, Shelf(FULL))

    def test_a_hundred_operations_and_more(self):
        shelf = Shelf(CONTENTS)
        for number in range(120):
            shelf.over(FOLDERS[number % 3], FOLDERS[(number + 1) % 3])
        self.assertEqual([len(shelf), len(shelf.script_now)], [120, 120])
        self.assertEqual(shelf.lists_now, lists_of(FOLDERS, shelf.script_now))
        for _ in range(120):
            shelf.undo()
        self.assertEqual(shelf.contents_now, CONTENTS)


class CopyOf(ShelfCase):
    def made(self):
        """Return a shelf with several operations to undo."""
        shelf = Shelf(CONTENTS)
        shelf.over("a", "b")
        shelf.write("c", "z", "9")
        shelf.skip("c", "a")
        return shelf

    def test_the_same_contents_and_operations(self):
        shelf = self.made()
        other = shelf.copy_of()
        self.assertIs(type(other), Shelf)
        self.assertIsNot(other, shelf)
        self.assertEqual(other, shelf)
        for property_name in PROPERTIES:
            self.assertEqual(getattr(other, property_name), getattr(shelf, property_name))
        for left in (3, 2, 1):
            self.assertEqual([len(other), len(shelf)], [left, left])
            other.undo()
            shelf.undo()
            self.assertEqual(other, shelf)
        self.assertEqual(other.contents_now, CONTENTS)
        self.check_raises(NothingToUndo, other.undo)

    def test_independent(self):
        shelf = self.made()
        before, other = state(shelf), shelf.copy_of()
        other.undo()
        other.write("a", "x", "5")
        other.over("a", "c")
        self.assertEqual(state(shelf), before)
        behind = state(other)
        shelf.undo()
        shelf.undo()
        shelf.undo()
        shelf.write("b", "q", "1")
        self.assertEqual(state(other), behind)
        self.assertNotEqual(shelf, other)
        self.check_raises(NothingToUndo, Shelf(CONTENTS).copy_of().undo)


class Equality(ShelfCase):
    def test_equal_contents_made_in_other_ways(self):
        shelf = Shelf({"a": {"x": "1", "y": "2"}, "b": {"x": "1", "y": "2"}})
        turned = Shelf({"b": {"y": "2", "x": "1"}, "a": {"y": "2", "x": "1"}})
        copied = Shelf({"a": {"x": "1", "y": "2"}, "b": {}})
        copied.over("a", "b")
        written = Shelf({"a": {}, "b": {}})
        for name, path in itertools.product("ba", "yx"):
            written.write(name, path, "1" if path == "x" else "2")
        for one, two in itertools.product((shelf, turned, copied, written), repeat=2):
            self.assertIs(one == two, True)
            self.assertIs(one != two, False)
        copied.undo()
        self.assertIs(copied == shelf, False)
        self.assertIs(copied != shelf, True)

    def test_other_contents(self):
        others = [{"a": {"x": "1"}}, {"a": {"x": "2"}}, {"a": {"y": "1"}}, {"a": {}}, {"b": {"x": "1"}},
                  {"a": {"x": "1"}, "b": {}}, {"a": {"x": "1", "y": "1"}}, {"a": {}, "b": {"x": "1"}}]
        for one, two in itertools.product(others, repeat=2):
            self.assertIs(Shelf(one) == Shelf(two), one == two)
            self.assertIs(Shelf(one) != Shelf(two), one != two)

    def test_any_other_value(self):
        shelf = Shelf(CONTENTS)
        for value in odd_values() + [CONTENTS, shelf.contents_now, repr(shelf), Shelf, (shelf,), [shelf], Agreeable()]:
            self.assertIs(shelf == value, False)
            self.assertIs(shelf != value, True)

    def test_equality_changes_nothing(self):
        shelf = Shelf(CONTENTS)
        shelf.over("a", "b")
        before = state(shelf)
        self.assertIs(shelf == Shelf(CONTENTS), False)
        self.assertEqual(state(shelf), before)


class Conventions(ShelfCase):
    def test_arguments_stay_as_they_are(self):
        contents = copy.deepcopy(CONTENTS)
        shelf = Shelf(contents)
        shelf.over("a", "b")
        shelf.write("a", "x", "9")
        shelf.skip("b", "c")
        shelf.undo()
        self.assertEqual(repr(contents), repr(CONTENTS))

    def test_contents_that_are_changed_later(self):
        contents = copy.deepcopy(CONTENTS)
        shelf = Shelf(contents)
        contents["a"]["x"] = "9"
        contents["b"].clear()
        contents["c"]["new"] = "8"
        del contents["a"]
        contents["d"] = {}
        self.assertEqual(shelf.contents_now, CONTENTS)
        self.assertEqual(shelf, Shelf(CONTENTS))

    def test_folders_that_are_one_dict(self):
        files = {"x": "1"}
        shelf = Shelf({"a": files, "b": files, "c": {}})
        shelf.write("a", "x", "2")
        self.assertEqual([shelf.read("a", "x"), shelf.read("b", "x"), files], ["2", "1", {"x": "1"}])

    def test_results_that_are_changed_later(self):
        shelf = Shelf(CONTENTS)
        for value in (shelf.over("a", "b"), shelf.skip("b", "c")):
            value.clear()
        before = state(shelf)
        for part in inner(shelf.contents_now) + inner(shelf.lists_now):
            part.clear()
        shelf.contents_now["a"]["x"] = "9"
        shelf.lists_now["a"].append("c")
        self.assertEqual(state(shelf), before)

    def test_results_are_new(self):
        shelf = Shelf(dict.fromkeys(TWENTY, {"x": "1"}))
        for source, target in (("a", "b"), ("b", "c"), ("a", "d")):
            shelf.over(source, target)
        parts = inner([shelf.contents_now, shelf.contents_now, shelf.lists_now, shelf.lists_now])
        self.assertEqual(len({id(part) for part in parts}), len(parts))
        self.assertEqual(len(parts), 85)

    def test_keys_ascend(self):
        shelf = Shelf({"zz": {"y": "1", "x": "2"}, "b": {"x": "3"}, "ab": {}, "c": {"z": "4", "b": "5"}})
        for source, target in (("zz", "b"), ("c", "zz"), ("b", "ab")):
            self.check_ascending([shelf.contents_now, shelf.lists_now])
            shelf.over(source, target)
            shelf.write(target, "a0", "")
            self.check_ascending([shelf.contents_now, shelf.lists_now, shelf.copy_of().contents_now])
        shelf.undo()
        self.check_ascending([shelf.contents_now, shelf.lists_now])
        self.assertEqual(list(shelf.lists_now), ["ab", "b", "c", "zz"])

    def test_most_folders_and_files(self):
        contents = {name: {f"{name}{index}": name for index in range(40)} for name in TWENTY}
        shelf = Shelf(contents)
        self.assertEqual(shelf.contents_now, contents)
        self.check_unchanged(TooMany, shelf, "over", "t", "a")
        self.check_raises(InvalidContents, Shelf, {**contents, "u": {}})
        self.check_raises(InvalidContents, Shelf, {"a": many_files(41)})
        self.assertEqual(Shelf({"abcdefgh": {}}).contents_now, {"abcdefgh": {}})


class AgainstFunctions(ShelfCase):
    def test_copies_against_run_lists_and_winner(self):
        numbers = Numbers(103)
        for count in range(60):
            folders = ("c", "a", "d", "b")[:2 + count % 3]
            shelf = Shelf(telling_all(folders))
            made = ()
            for word, source, target in numbers.script(folders, numbers.below(25)):
                before = shelf.contents_now
                self.assertEqual(getattr(shelf, word)(source, target), put_by(word, before, source, target))
                made = made + ((word, source, target),)
                self.assertEqual(shelf.contents_now, run(telling_all(folders), made))
            self.assertEqual([shelf.script_now, len(shelf)], [made, len(made)])
            self.assertEqual(shelf.lists_now, lists_of(folders, made))
            groups = [group for size in range(1, len(folders) + 1)
                      for group in itertools.combinations(sorted(folders), size)]
            for name, group in itertools.product(folders, groups):
                self.assertEqual(shelf.read(name, path_of(group)), winner(folders, made, name, group))

    def test_all_pairs_of_copies(self):
        for one, two in itertools.product(all_copies(FOLDERS), repeat=2):
            shelf = Shelf(CONTENTS)
            for word, source, target in (one, two):
                getattr(shelf, word)(source, target)
            self.assertEqual(shelf.contents_now, run(CONTENTS, (one, two)))
            self.assertEqual(shelf.lists_now, lists_of(FOLDERS, (one, two)))
            self.assertEqual(shelf == Shelf(run(CONTENTS, (two, one))),
                             run(CONTENTS, (one, two)) == run(CONTENTS, (two, one)))

    def test_operations_without_a_pattern_against_a_model(self):
        numbers = Numbers(107)
        for _ in range(60):
            shelf, steps = Shelf(CONTENTS), [(CONTENTS, ())]
            for _ in range(60):
                kind = numbers.below(8)
                contents, script = steps[-1]
                if kind == 0:
                    name, path, text = FOLDERS[numbers.below(3)], "xyz"[numbers.below(3)], str(numbers.below(3))
                    self.assertIsNone(shelf.write(name, path, text))
                    steps.append(({**contents, name: {**contents[name], path: text}}, ()))
                elif kind <= 2 and len(steps) > 1:
                    shelf.undo()
                    steps.pop()
                else:
                    made = all_copies(FOLDERS)[numbers.below(12)]
                    self.assertEqual(getattr(shelf, made[0])(*made[1:]), put_by(made[0], contents, *made[1:]))
                    steps.append((run(contents, (made,)), script + (made,)))
                contents, script = steps[-1]
                self.assertEqual([shelf.contents_now, shelf.script_now, len(shelf)], [contents, script, len(steps) - 1])
                self.assertEqual(shelf.lists_now, lists_of(FOLDERS, script))
                self.assertEqual(shelf, Shelf(contents))

    def test_telling_contents_tell_shelves_apart(self):
        other = TURN[::-1]
        contents = telling_contents(FOLDERS, TURN, other)
        shelves = [Shelf(contents), Shelf(contents)]
        for shelf, script in zip(shelves, (TURN, other)):
            for word, source, target in script:
                getattr(shelf, word)(source, target)
        self.assertNotEqual(*shelves)


if __name__ == "__main__":
    unittest.main()
