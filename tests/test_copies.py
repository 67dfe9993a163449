"""Copies, scripts and lists [4, 5, 6, 7, 9]."""

import unittest

from copyover.copies import heads_of, is_copy, is_script, list_of, lists_of
from copyover.errors import InvalidFolders, InvalidName, InvalidScript
from tests.helper import (FOLDERS, TURN, TWENTY, Case, all_copies, foreign_scripts, wrong_copies, wrong_folders,
                          wrong_of_folders, wrong_scripts)


class IsCopy(Case):
    def test_copies(self):
        for value in all_copies(("a", "b", "zz", "abcdefgh", "az", "stuvwxyz")):
            self.assertIs(is_copy(value), True)

    def test_words_are_names_too(self):
        self.assertIs(is_copy(("over", "over", "skip")), True)
        self.assertIs(is_copy(("skip", "skip", "over")), True)

    def test_every_letter(self):
        for letter in "abcdefghijklmnopqrstuvwxyz":
            self.assertIs(is_copy(("over", letter, letter * 8)), True)
            self.assertIs(is_copy(("skip", letter * 9, letter)), False)

    def test_document(self):
        self.assertIs(is_copy(("over", "a", "a")), False)

    def test_others(self):
        for value in wrong_copies():
            self.assertIs(is_copy(value), False, repr(value)[:300])


class IsScript(Case):
    def test_scripts(self):
        for value in [(), TURN, (("over", "a", "b"),), (("skip", "ab", "abcdefgh"),), tuple(all_copies(FOLDERS))]:
            self.assertIs(is_script(value), True)

    def test_lengths(self):
        copy = ("skip", "a", "b")
        self.assertEqual([is_script((copy,) * many) for many in (0, 1, 199, 200, 201, 202, 300)],
                         [True] * 4 + [False] * 3)

    def test_names_of_more_folders_than_twenty(self):
        names = [one + two for one in "abcdefghij" for two in "xyz"]
        self.assertIs(is_script(tuple(("over", name, "a") for name in names)), True)

    def test_scripts_of_any_folders(self):
        for value in foreign_scripts():
            self.assertIs(is_script(value), True)

    def test_others(self):
        for value in wrong_scripts():
            self.assertIs(is_script(value), False, repr(value)[:300])


class Lists(Case):
    def test_document(self):
        self.assertEqual(
            [lists_of(FOLDERS, TURN), list_of(FOLDERS, (("skip", "a", "c"), ("skip", "b", "c")), "c")],
            [{"a": ["b", "a"], "b": ["a", "c", "b"], "c": ["a", "c"]}, ["c", "a", "b"]])
        self.assertEqual(heads_of(FOLDERS, TURN), {"a": "b", "b": "a", "c": "a"})

    def test_table(self):
        rows = [[["a"], ["b"], ["c"]], [["a"], ["b"], ["a", "c"]], [["b", "a"], ["b"], ["a", "c"]],
                [["b", "a"], ["a", "c", "b"], ["a", "c"]]]
        for many, row in enumerate(rows):
            self.assertEqual(lists_of(FOLDERS, TURN[:many]), dict(zip(FOLDERS, row)))
            self.assertEqual([list_of(FOLDERS, TURN[:many], name) for name in FOLDERS], row)
            self.assertEqual(heads_of(FOLDERS, TURN[:many]), {name: part[0] for name, part in zip(FOLDERS, row)})

    def test_one_copy(self):
        self.assertEqual(lists_of(("a", "b"), (("over", "a", "b"),)), {"a": ["a"], "b": ["a", "b"]})
        self.assertEqual(lists_of(("a", "b"), (("skip", "a", "b"),)), {"a": ["a"], "b": ["b", "a"]})
        self.assertEqual(heads_of(("a", "b"), (("over", "a", "b"),)), {"a": "a", "b": "a"})
        self.assertEqual(heads_of(("a", "b"), (("skip", "a", "b"),)), {"a": "a", "b": "b"})

    def test_a_folder_stays_at_its_first_place(self):
        over = (("over", "a", "b"), ("over", "c", "b"), ("over", "a", "b"))
        self.assertEqual(list_of(FOLDERS, over[:2], "b"), ["c", "a", "b"])
        self.assertEqual(list_of(FOLDERS, over, "b"), ["a", "c", "b"])
        skip = (("skip", "a", "b"), ("skip", "c", "b"), ("skip", "a", "b"))
        self.assertEqual(list_of(FOLDERS, skip, "b"), ["b", "a", "c"])
        back = (("skip", "a", "b"), ("over", "b", "a"), ("skip", "c", "a"), ("skip", "a", "b"))
        self.assertEqual(lists_of(FOLDERS, back), {"a": ["b", "a", "c"], "b": ["b", "a", "c"], "c": ["c"]})

    def test_own_folder_in_the_middle(self):
        self.assertEqual(list_of(FOLDERS, (("over", "a", "b"), ("skip", "c", "b")), "b"), ["a", "b", "c"])

    def test_a_later_change_of_the_source_does_not_reach_the_target(self):
        script = (("over", "a", "b"), ("over", "c", "a"))
        self.assertEqual(lists_of(FOLDERS, script), {"a": ["c", "a"], "b": ["a", "b"], "c": ["c"]})

    def test_no_copies(self):
        self.assertEqual(lists_of(TWENTY, ()), {name: [name] for name in TWENTY})
        self.assertEqual(heads_of(TWENTY, ()), {name: name for name in TWENTY})
        self.assertEqual([list_of(("abcdefgh",), (), "abcdefgh"), lists_of(("z",), ()), heads_of(("z",), ())],
                         [["abcdefgh"], {"z": ["z"]}, {"z": "z"}])

    def test_order_of_the_folders_does_not_matter(self):
        for folders in (("c", "b", "a"), ("b", "c", "a"), ("c", "a", "b")):
            for function in (lists_of, heads_of):
                self.assertEqual(function(folders, TURN), function(FOLDERS, TURN))
                self.assertEqual(list(function(folders, TURN)), ["a", "b", "c"])
        for function in (lists_of, heads_of):
            behind = function(("b", "ab", "aa", "a", "ba"), (("over", "b", "a"),))
            self.assertEqual(list(behind), ["a", "aa", "ab", "b", "ba"])

    def test_order_within_a_list_is_not_that_of_the_folders(self):
        self.assertEqual(list_of(("a", "b", "c"), (("over", "b", "c"), ("over", "a", "c")), "c"), ["a", "b", "c"])
        self.assertEqual(list_of(("c", "b", "a"), (("over", "a", "c"), ("over", "b", "c")), "c"), ["b", "a", "c"])

    def test_twenty_folders(self):
        chain = tuple(("over", one, two) for one, two in zip(TWENTY, TWENTY[1:]))
        lists = lists_of(TWENTY, chain)
        self.assertEqual(lists, {name: list(TWENTY[:place + 1]) for place, name in enumerate(TWENTY)})
        self.assertEqual(heads_of(TWENTY, chain), {name: "a" for name in TWENTY})
        self.assertEqual(list_of(TWENTY, tuple(("skip", name, "t") for name in TWENTY[:19]), "t"),
                         ["t"] + list(TWENTY[:19]))

    def test_two_hundred_copies(self):
        script = (("over", "a", "b"), ("over", "b", "a")) * 99 + (("skip", "b", "c"), ("over", "c", "a"))
        self.assertEqual(lists_of(FOLDERS, script), {"a": ["c", "a", "b"], "b": ["a", "b"], "c": ["c", "a", "b"]})
        for function, rest in ((lists_of, ()), (list_of, ("a",)), (heads_of, ())):
            self.check_raises(InvalidScript, function, FOLDERS, script + (("over", "a", "b"),), *rest)


class WrongArguments(Case):
    def test_folders(self):
        for value in wrong_folders():
            for function, rest in ((lists_of, ()), (list_of, ("a",)), (heads_of, ())):
                self.check_raises(InvalidFolders, function, value, (), *rest)
                self.check_raises(InvalidFolders, function, value, None, *rest)

    def test_scripts(self):
        for value in wrong_scripts() + foreign_scripts():
            for function, rest in ((lists_of, ()), (list_of, ("a",)), (heads_of, ())):
                self.check_raises(InvalidScript, function, FOLDERS, value, *rest)

    def test_names(self):
        for value in wrong_of_folders():
            self.check_raises(InvalidName, list_of, FOLDERS, TURN, value)
            self.check_raises(InvalidScript, list_of, FOLDERS, foreign_scripts()[0], value)
            self.check_raises(InvalidFolders, list_of, ("a", "a"), TURN, value)

    def test_names_of_one_folder(self):
        self.check_raises(InvalidScript, lists_of, ("a",), (("over", "a", "b"),))
        self.check_raises(InvalidName, list_of, ("abc",), (), "b")


if __name__ == "__main__":
    unittest.main()
