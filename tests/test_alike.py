"""Comparing scripts [8, 11]."""

import itertools
import unittest

from copyover.alike import commute, do_same, telling_contents
from copyover.contents import are_contents
from copyover.errors import InvalidCopy, InvalidFolders, InvalidScript
from tests.helper import (FOLDERS, TURN, TWENTY, Case, all_copies, copied, foreign_scripts, telling_all, wrong_copies,
                          wrong_folders, wrong_scripts)

ONE, TWO = (("over", "a", "b"),), (("skip", "a", "b"),)


class AlikeCase(Case):
    def check_telling(self, folders, copies, other):
        """Check contents that tell two scripts apart, and return the folders that have the path."""
        contents = telling_contents(folders, copies, other)
        self.assertIs(are_contents(contents), True)
        self.assertEqual(list(contents), sorted(folders))
        self.assertEqual(len({path for files in contents.values() for path in files}), 1)
        owners = [name for name in contents if contents[name]]
        self.assertIn(len(owners), (1, 2))
        self.assertNotEqual(copied(contents, copies), copied(contents, other))
        return owners


class DoSame(AlikeCase):
    def test_document(self):
        self.assertEqual([do_same(("a", "b"), ONE, TWO), do_same(("a", "b"), ONE, ONE * 2)], [False, True])

    def test_answers_are_truth_values(self):
        self.assertIs(do_same(("a", "b"), ONE, TWO), False)
        self.assertIs(do_same(("a", "b"), ONE, ONE * 2), True)
        self.assertIs(do_same(FOLDERS, (), ()), True)

    def test_equal_scripts(self):
        for script in ((), TURN, ONE, ONE * 200):
            self.assertIs(do_same(FOLDERS, script, script), True)

    def test_different_scripts_with_equal_lists(self):
        self.assertIs(do_same(FOLDERS, ONE * 200, ONE), True)
        self.assertIs(do_same(FOLDERS, (("over", "a", "b"), ("over", "c", "b")),
                              (("skip", "a", "c"), ("over", "c", "b"))), False)
        self.assertIs(do_same(FOLDERS, (("skip", "a", "b"), ("over", "c", "b")),
                              (("over", "c", "b"), ("skip", "a", "b"))), True)

    def test_difference_in_the_last_folder_only(self):
        script = tuple(("over", one, two) for one, two in zip(TWENTY, TWENTY[1:]))
        self.assertIs(do_same(TWENTY, script, script[:-1]), False)
        self.assertIs(do_same(TWENTY, script, script + (("skip", "a", "t"),)), True)

    def test_difference_in_the_order_only(self):
        one, two = (("over", "a", "c"), ("over", "b", "c")), (("over", "b", "c"), ("over", "a", "c"))
        self.assertIs(do_same(FOLDERS, one, two), False)

    def test_heads_are_not_enough(self):
        self.assertIs(do_same(FOLDERS, (("skip", "a", "c"),), ()), False)
        self.assertIs(do_same(FOLDERS, (("skip", "a", "c"), ("skip", "b", "c")),
                              (("skip", "b", "c"), ("skip", "a", "c"))), False)


class TellingContents(AlikeCase):
    def test_document(self):
        self.assertIsNone(telling_contents(("a", "b"), ONE, ONE))

    def test_scripts_that_do_the_same(self):
        self.assertIsNone(telling_contents(("a", "b"), ONE, ONE * 2))
        self.assertIsNone(telling_contents(TWENTY, (), ()))
        self.assertIsNone(telling_contents(FOLDERS, TURN, TURN))

    def test_one_folder_is_missing_in_a_list(self):
        for copy in all_copies(FOLDERS):
            self.check_telling(FOLDERS, (copy,), ())
            self.check_telling(FOLDERS, (), (copy,))

    def test_order_only(self):
        owners = self.check_telling(("a", "b"), ONE, TWO)
        self.assertEqual(owners, ["a", "b"])
        self.assertEqual(len(set(telling_contents(("a", "b"), ONE, TWO)["a"].values())), 1)
        self.check_telling(FOLDERS, (("skip", "a", "c"), ("skip", "b", "c")), (("skip", "b", "c"), ("skip", "a", "c")))

    def test_order_behind_a_common_beginning(self):
        start = (("skip", "a", "e"), ("skip", "b", "e"))
        self.check_telling(TWENTY, start + (("skip", "c", "e"), ("skip", "d", "e")),
                           start + (("skip", "d", "e"), ("skip", "c", "e")))

    def test_lists_of_equal_length_with_different_folders(self):
        self.check_telling(FOLDERS, (("over", "a", "c"),), (("over", "b", "c"),))
        self.check_telling(FOLDERS, (("skip", "a", "c"),), (("skip", "b", "c"),))

    def test_a_list_that_is_the_beginning_of_the_other(self):
        self.check_telling(FOLDERS, (("skip", "a", "b"),), (("skip", "a", "b"), ("skip", "c", "b")))
        self.check_telling(FOLDERS, (("skip", "a", "b"), ("skip", "c", "b")), (("skip", "a", "b"),))

    def test_all_folders_in_ascending_order(self):
        contents = telling_contents(("c", "a", "d", "b"), ONE, TWO)
        self.assertEqual(list(contents), ["a", "b", "c", "d"])
        self.assertEqual([contents["c"], contents["d"]], [{}, {}])

    def test_twenty_folders_and_long_scripts(self):
        folders = tuple(name * 8 for name in TWENTY)
        chain = tuple(("over", one, two) for one, two in zip(folders, folders[1:]))
        script = chain * 10 + (("over", "tttttttt", "aaaaaaaa"),) * 10
        self.assertEqual(len(script), 200)
        self.assertIsNone(telling_contents(folders, script, chain + script[-1:]))
        self.check_telling(folders, script, script[:-10])
        self.check_telling(folders, script, script[-10:] + script[:-10])
        self.check_telling(folders, script, ())


class WrongArguments(AlikeCase):
    def test_folders(self):
        for value in wrong_folders():
            for function in (do_same, telling_contents):
                self.check_raises(InvalidFolders, function, value, (), ())
                self.check_raises(InvalidFolders, function, value, None, None)

    def test_scripts(self):
        for value in wrong_scripts() + foreign_scripts():
            for function in (do_same, telling_contents):
                self.check_raises(InvalidScript, function, FOLDERS, value, TURN)
                self.check_raises(InvalidScript, function, FOLDERS, TURN, value)
                self.check_raises(InvalidScript, function, FOLDERS, value, value)

    def test_copies(self):
        good = ("skip", "a", "b")
        for value in wrong_copies():
            self.check_raises(InvalidCopy, commute, value, good)
            self.check_raises(InvalidCopy, commute, good, value)
            self.check_raises(InvalidCopy, commute, value, value)


class Commute(AlikeCase):
    def test_document(self):
        self.assertIs(commute(("over", "a", "c"), ("skip", "b", "c")), True)
        self.assertIs(commute(("skip", "a", "c"), ("skip", "b", "c")), False)

    def test_copies_of_different_folders(self):
        self.assertIs(commute(("over", "a", "b"), ("over", "c", "d")), True)
        self.assertIs(commute(("skip", "abcdefgh", "b"), ("over", "z", "zz")), True)

    def test_a_copy_with_itself(self):
        for copy in all_copies(FOLDERS):
            self.assertIs(commute(copy, copy), True)

    def test_chains_and_rings(self):
        self.assertIs(commute(("over", "a", "b"), ("over", "b", "c")), False)
        self.assertIs(commute(("over", "a", "b"), ("over", "b", "a")), False)
        self.assertIs(commute(("over", "a", "b"), ("skip", "b", "a")), True)
        self.assertIs(commute(("skip", "a", "b"), ("skip", "b", "a")), True)
        self.assertIs(commute(("over", "a", "b"), ("over", "a", "c")), True)
        self.assertIs(commute(("over", "a", "c"), ("over", "b", "c")), False)

    def test_all_copies_of_four_folders_in_both_orders(self):
        contents = telling_all(("a", "b", "c", "d"))
        for one, two in itertools.product(all_copies(("a", "b", "c", "d")), repeat=2):
            same = copied(contents, (one, two)) == copied(contents, (two, one))
            self.assertIs(commute(one, two), same, (one, two))


if __name__ == "__main__":
    unittest.main()
