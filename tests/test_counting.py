"""Counting and numbering lists [14]."""

import itertools
import math
import unittest

from copyover.counting import count_lists, list_number, nth_list
from copyover.errors import InvalidFolders, InvalidLength, InvalidName, InvalidNumber, NotList
from tests.helper import (FOLDERS, TWENTY, TWENTY_ONE, Case, Numbers, wrong_folders, wrong_integers, wrong_lists_of,
                          wrong_of_folders)

# The order of the folders is neither the ascending one nor the one of their first letters alone.
SIX = ("b", "ab", "f", "aa", "a", "ba")


def written_out(folders, name, length):
    """Return all lists of a folder with a length in ascending order."""
    return sorted(list(names) for names in itertools.permutations(folders, length) if name in names)


class CountLists(Case):
    def test_document(self):
        self.assertEqual(count_lists(("a", "b", "c"), "b", 2), 4)

    def test_against_lists_written_out(self):
        for many in range(1, 7):
            for name, length in itertools.product(SIX[:many], range(1, many + 1)):
                self.assertEqual(count_lists(SIX[:many], name, length), len(written_out(SIX[:many], name, length)))

    def test_shortest_and_longest(self):
        for many in (1, 2, 19, 20):
            for name in TWENTY[:many]:
                self.assertEqual(count_lists(TWENTY[:many], name, 1), 1)
                self.assertEqual(count_lists(TWENTY[:many], name, many), math.factorial(many))
        self.assertEqual(count_lists(TWENTY, "c", 10), 10 * math.perm(19, 9))

    def test_lengths(self):
        for folders in (("b",), FOLDERS, TWENTY):
            for length in (0, -1, len(folders) + 1, 21, 10 ** 59):
                self.check_raises(InvalidLength, count_lists, folders, "b", length)
            for value in wrong_integers(1, len(folders)):
                self.check_raises(InvalidLength, count_lists, folders, "b", value)

    def test_wrong_folders_and_names(self):
        for value in wrong_folders():
            self.check_raises(InvalidFolders, count_lists, value, "a", 1)
            self.check_raises(InvalidFolders, count_lists, value, None, 0)
        for value in wrong_of_folders():
            self.check_raises(InvalidName, count_lists, FOLDERS, value, 1)
            self.check_raises(InvalidName, count_lists, FOLDERS, value, 0)
        self.check_raises(InvalidFolders, count_lists, TWENTY_ONE, "a", 1)


class NthList(Case):
    def test_document(self):
        self.assertEqual(nth_list(("a", "b", "c"), "b", 2, 1), ["b", "a"])

    def test_against_lists_written_out(self):
        for many in range(1, 6):
            for name, length in itertools.product(SIX[:many], range(1, many + 1)):
                lists = written_out(SIX[:many], name, length)
                found = [nth_list(SIX[:many], name, length, number) for number in range(len(lists))]
                self.assertEqual(found, lists)
        for name in SIX:
            self.assertEqual([nth_list(SIX, name, 4, number) for number in range(240)], written_out(SIX, name, 4))

    def test_first_and_last_of_twenty(self):
        self.assertEqual(nth_list(TWENTY, "a", 20, 0), list(TWENTY))
        self.assertEqual(nth_list(TWENTY, "t", 20, math.factorial(20) - 1), list(TWENTY[::-1]))
        self.assertEqual(nth_list(TWENTY, "t", 3, 0), ["a", "b", "t"])
        self.assertEqual(nth_list(TWENTY, "a", 3, count_lists(TWENTY, "a", 3) - 1), ["t", "s", "a"])
        self.assertEqual(nth_list(TWENTY, "k", 1, 0), ["k"])
        self.assertEqual(nth_list(("z",), "z", 1, 0), ["z"])

    def test_numbers(self):
        for folders, name, length in ((FOLDERS, "b", 2), (("b",), "b", 1), (SIX, "aa", 6), (TWENTY, "t", 20)):
            many = count_lists(folders, name, length)
            for number in (-1, -many, many, many + 1):
                self.check_raises(InvalidNumber, nth_list, folders, name, length, number)
            for value in wrong_integers(0, many - 1):
                self.check_raises(InvalidNumber, nth_list, folders, name, length, value)
                self.check_raises(InvalidLength, nth_list, folders, name, 0, value)
                self.check_raises(InvalidName, nth_list, folders, "x", length, value)

    def test_wrong_folders_names_and_lengths(self):
        for value in wrong_folders():
            self.check_raises(InvalidFolders, nth_list, value, "a", 1, 0)
            self.check_raises(InvalidFolders, nth_list, value, None, 0, -1)
        for value in wrong_of_folders():
            self.check_raises(InvalidName, nth_list, FOLDERS, value, 1, 0)
            self.check_raises(InvalidName, nth_list, FOLDERS, value, 0, -1)
        for value in wrong_integers(1, 3):
            self.check_raises(InvalidLength, nth_list, FOLDERS, "b", value, 0)
            self.check_raises(InvalidLength, nth_list, FOLDERS, "b", value, -1)

    def test_order_of_the_folders_does_not_matter(self):
        for folders in itertools.permutations(FOLDERS):
            self.assertEqual([nth_list(folders, "b", 2, number) for number in range(4)],
                             [["a", "b"], ["b", "a"], ["b", "c"], ["c", "b"]])


class ListNumber(Case):
    def test_document(self):
        self.assertEqual(list_number(("a", "b", "c"), "b", ["c", "b"]), 3)

    def test_against_lists_written_out(self):
        for many in range(1, 6):
            for name, length in itertools.product(SIX[:many], range(1, many + 1)):
                lists = written_out(SIX[:many], name, length)
                self.assertEqual([list_number(SIX[:many], name, value) for value in lists], list(range(len(lists))))
        for name in SIX:
            self.assertEqual([list_number(SIX, name, value) for value in written_out(SIX, name, 5)], list(range(600)))

    def test_twenty_folders(self):
        self.assertEqual(list_number(TWENTY, "k", list(TWENTY)), 0)
        self.assertEqual(list_number(TWENTY, "k", list(TWENTY[::-1])), math.factorial(20) - 1)
        numbers = Numbers(41)
        for count in range(200):
            name, length = TWENTY[numbers.below(20)], 1 + count % 20
            number = (numbers.below(2 ** 31) ** 2) % count_lists(TWENTY, name, length)
            found = nth_list(TWENTY, name, length, number)
            self.assertEqual([len(set(found)), len(found), name in found], [length, length, True])
            self.assertEqual(list_number(TWENTY, name, found), number)

    def test_values_that_are_no_list_of_the_folder(self):
        for name in FOLDERS:
            for value in wrong_lists_of(name):
                self.check_raises(NotList, list_number, FOLDERS, name, value)
                self.check_raises(InvalidName, list_number, FOLDERS, "x", value)
                self.check_raises(InvalidFolders, list_number, list(FOLDERS), name, value)
        self.check_raises(NotList, list_number, TWENTY, "a", list(TWENTY_ONE))

    def test_wrong_folders_and_names(self):
        for value in wrong_folders():
            self.check_raises(InvalidFolders, list_number, value, "a", ["a"])
            self.check_raises(InvalidFolders, list_number, value, None, None)
        for value in wrong_of_folders():
            self.check_raises(InvalidName, list_number, FOLDERS, value, ["a"])
            self.check_raises(InvalidName, list_number, FOLDERS, value, None)


if __name__ == "__main__":
    unittest.main()
