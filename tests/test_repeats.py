"""Joining lists and repeating scripts [6, 8 (e), 12]."""

import itertools
import math
import unittest

from copyover.copies import lists_of
from copyover.errors import InvalidFolders, InvalidLists, InvalidScript, InvalidTimes, NotAlike
from copyover.repeats import joined, lists_after, settling
from tests.helper import (FOLDERS, TURN, TWENTY, TWENTY_ONE, Case, Numbers, all_scripts, behind, foreign_scripts,
                          lists_of_names, ring_turn, wrong_folders, wrong_integers, wrong_lists, wrong_scripts)

MOST = 10 ** 30
FORWARD = tuple(("over", one, two) for one, two in zip(TWENTY, TWENTY[1:]))
# Rings of 2, 3, 5 and 7 folders that turn with periods of their own.
RINGS = tuple(copy for ring in (TWENTY[:2], TWENTY[2:5], TWENTY[5:10], TWENTY[10:17]) for copy in ring_turn(ring, "r"))


def powers(folders, script):
    """Return the lists behind 0, 1 and more repetitions until they come again, and the number of the first ones."""
    lists, seen, found = lists_of_names(sorted(folders)), {}, []
    while repr(lists) not in seen:
        seen[repr(lists)] = len(found)
        found.append(lists)
        lists = behind(lists, script)
    return found, seen[repr(lists)]


def some_scripts():
    """Return pairs of folders and a script of them of many kinds."""
    pairs = [(("b", "a"), script) for script in all_scripts(("a", "b"), 4)]
    pairs = pairs + [(FOLDERS, script) for script in all_scripts(FOLDERS, 3)[::3]]
    numbers = Numbers(23)
    for count in range(150):
        folders = TWENTY[:2 + count % 7]
        pairs.append((folders, numbers.script(folders, 1 + numbers.below(3 * len(folders)))))
    for count in range(20):
        folders = TWENTY[:8 + numbers.below(13)]
        pairs.append((folders, numbers.script(folders, 1 + numbers.below(60))))
    return pairs + [(TWENTY, FORWARD), (TWENTY, FORWARD[::-1]), (TWENTY, ()), (("z",), ())]


class Joined(Case):
    def test_document(self):
        lists = lists_of(FOLDERS, TURN)
        self.assertEqual(joined(lists, lists), {"a": ["a", "c", "b"], "b": ["b", "a", "c"], "c": ["b", "a", "c"]})

    def test_the_first_script_is_the_one_of_the_first_lists(self):
        one, two = lists_of(FOLDERS, (("over", "a", "b"),)), lists_of(FOLDERS, (("over", "b", "c"),))
        self.assertEqual(joined(one, two), {"a": ["a"], "b": ["a", "b"], "c": ["a", "b", "c"]})
        self.assertEqual(joined(two, one), {"a": ["a"], "b": ["a", "b"], "c": ["b", "c"]})

    def test_a_folder_stays_at_its_first_place(self):
        one = {"a": ["a"], "b": ["c", "b"], "c": ["a", "c"]}
        self.assertEqual(joined(one, {"a": ["b", "c", "a"], "b": ["c", "b"], "c": ["c", "b"]}),
                         {"a": ["c", "b", "a"], "b": ["a", "c", "b"], "c": ["a", "c", "b"]})

    def test_lists_of_no_script(self):
        turned = {"a": ["b", "a"], "b": ["a", "b"]}
        self.assertEqual(joined(turned, turned), {"a": ["a", "b"], "b": ["b", "a"]})
        ring = {"a": ["b", "a"], "b": ["c", "b"], "c": ["a", "c"]}
        self.assertEqual(joined(ring, ring), {"a": ["c", "b", "a"], "b": ["a", "c", "b"], "c": ["b", "a", "c"]})

    def test_against_scripts_that_are_joined(self):
        scripts = all_scripts(FOLDERS, 2)
        for one, two in itertools.product(scripts[::2], scripts):
            self.assertEqual(joined(behind(lists_of_names(FOLDERS), one), behind(lists_of_names(FOLDERS), two)),
                             behind(lists_of_names(FOLDERS), one + two))
        numbers = Numbers(29)
        for count in range(100):
            folders = TWENTY[:1 + count % 20]
            one, two = (numbers.script(folders, numbers.below(70) if count % 20 else 0) for _ in range(2))
            self.assertEqual(joined(lists_of(folders, one), lists_of(folders, two)), lists_of(folders, one + two))

    def test_one_and_twenty_folders(self):
        self.assertEqual(joined({"z": ["z"]}, {"z": ["z"]}), {"z": ["z"]})
        full = {name: list(TWENTY) for name in TWENTY}
        self.assertEqual(joined(full, lists_of_names(TWENTY)), full)
        self.assertEqual(joined(lists_of_names(TWENTY), full), full)
        back = {name: list(TWENTY[::-1]) for name in TWENTY}
        self.assertEqual(joined(back, full), back)
        self.check_raises(InvalidLists, joined, lists_of_names(TWENTY_ONE), lists_of_names(TWENTY_ONE))

    def test_order_of_the_keys_does_not_matter(self):
        lists, turned = lists_of(FOLDERS, TURN), dict(reversed(lists_of(FOLDERS, TURN).items()))
        for one, two in itertools.product((lists, turned), repeat=2):
            self.assertEqual(repr(joined(one, two)), repr(joined(lists, lists)))
        self.check_ascending(joined(turned, turned))

    def test_inner_lists_are_new(self):
        lists = lists_of_names(FOLDERS)
        for other in (lists, {"a": ["a"], "b": ["a", "b"], "c": ["a", "c"]}):
            both = joined(lists, other)
            self.assertEqual(len({id(names) for value in (both, lists, other) for names in value.values()}),
                             6 if other is lists else 9)

    def test_different_folders(self):
        one = lists_of_names(("a", "b"))
        for other in (("a",), ("a", "c"), ("a", "b", "c"), ("c", "d"), ("ab",), TWENTY):
            self.check_raises(NotAlike, joined, one, lists_of_names(other))
            self.check_raises(NotAlike, joined, lists_of_names(other), one)

    def test_wrong_lists(self):
        for value in wrong_lists():
            self.check_raises(InvalidLists, joined, value, lists_of_names(FOLDERS))
            self.check_raises(InvalidLists, joined, lists_of_names(FOLDERS), value)
            self.check_raises(InvalidLists, joined, value, value)
            self.check_raises(InvalidLists, joined, lists_of_names(("x", "y")), value)
            self.check_raises(InvalidLists, joined, value, lists_of_names(("x", "y")))


class ListsAfter(Case):
    def test_document(self):
        self.assertEqual([lists_after(FOLDERS, TURN, 2), lists_after(FOLDERS, TURN, 10 ** 30 - 1)["a"]],
                         [{"a": ["a", "c", "b"], "b": ["b", "a", "c"], "c": ["b", "a", "c"]}, ["b", "a", "c"]])

    def test_no_repetition_and_one(self):
        for folders, script in some_scripts():
            self.assertEqual(lists_after(folders, script, 0), lists_of_names(folders))
            self.assertEqual(lists_after(folders, script, 1), behind(lists_of_names(folders), script))

    def test_against_writing_the_script_out(self):
        for folders, script in some_scripts()[::5]:
            lists = lists_of_names(folders)
            for times in range(1, 12):
                lists = behind(lists, script)
                self.assertEqual(lists_after(folders, script, times), lists, (script, times))
                if times * len(script) <= 200:
                    self.assertEqual(lists_of(folders, script * times), lists)

    def test_very_many_repetitions(self):
        for folders, script in some_scripts()[::7] + [(TWENTY, RINGS)]:
            found, first = powers(folders, script)
            for times in (MOST, MOST - 1, MOST - 2, 2 ** 99, 2 ** 99 - 1, 10 ** 9 + 7, 10 ** 20, 257, 1000):
                at = first + (times - first) % (len(found) - first)
                self.assertEqual(lists_after(folders, script, times), found[at], (script, times))

    def test_against_joining_powers(self):
        for folders, script in some_scripts()[::11] + [(FOLDERS, TURN), (TWENTY, RINGS)]:
            for one, two in ((0, 0), (0, 5), (3, 4), (19, 1), (10 ** 29, 9 * 10 ** 29 - 1), (MOST - 1, 1), (MOST, 0)):
                powered = joined(lists_after(folders, script, one), lists_after(folders, script, two))
                self.assertEqual(lists_after(folders, script, one + two), powered)

    def test_keys_ascend_and_lists_are_new(self):
        for times in (0, 1, 2, 3, MOST):
            lists = lists_after(("c", "b", "a"), TURN, times)
            self.check_ascending(lists)
            self.assertEqual(len({id(names) for names in lists.values()}), 3)
            lists["a"].append("z")
            self.assertNotIn("z", lists_after(("c", "b", "a"), TURN, times)["a"])

    def test_one_folder_and_two_hundred_copies(self):
        self.assertEqual([lists_after(("z",), (), times) for times in (0, 1, MOST)], [{"z": ["z"]}] * 3)
        script = (("skip", "a", "b"),) * 199 + (("over", "b", "c"),)
        self.assertEqual(lists_after(FOLDERS, script, MOST), {"a": ["a"], "b": ["b", "a"], "c": ["b", "a", "c"]})
        self.check_raises(InvalidScript, lists_after, FOLDERS, script + script[:1], 1)
        self.check_raises(InvalidFolders, lists_after, TWENTY_ONE, (), 1)

    def test_times(self):
        for times in (MOST + 1, -1):
            self.check_raises(InvalidTimes, lists_after, FOLDERS, TURN, times)
            self.check_raises(InvalidTimes, lists_after, FOLDERS, (), times)
        for value in wrong_integers(0, MOST):
            self.check_raises(InvalidTimes, lists_after, FOLDERS, TURN, value)
            self.check_raises(InvalidScript, lists_after, FOLDERS, list(TURN), value)
            self.check_raises(InvalidFolders, lists_after, list(FOLDERS), TURN, value)

    def test_wrong_folders_and_scripts(self):
        for value in wrong_folders():
            self.check_raises(InvalidFolders, lists_after, value, (), 1)
        for value in wrong_scripts() + foreign_scripts():
            self.check_raises(InvalidScript, lists_after, FOLDERS, value, 0)
            self.check_raises(InvalidScript, lists_after, FOLDERS, value, -1)


class Settling(Case):
    def test_document(self):
        self.assertEqual(settling(FOLDERS, TURN), (2, 2))
        self.assertIs(type(settling(FOLDERS, TURN)), tuple)

    def test_scripts_that_settle_at_once(self):
        self.assertEqual([settling(FOLDERS, ()), settling(("z",), ()), settling(TWENTY, ())], [(0, 1)] * 3)
        self.assertEqual([settling(FOLDERS, (("over", "a", "b"),)), settling(TWENTY, FORWARD)], [(1, 1)] * 2)

    def test_against_writing_the_script_out(self):
        for folders, script in some_scripts():
            found, first = powers(folders, script)
            self.assertEqual(settling(folders, script), (first, len(found) - first), script)

    def test_bounds_of_fact_e(self):
        for folders, script in some_scripts() + [(TWENTY, RINGS)]:
            many = len(folders)
            first, period = settling(folders, script)
            self.assertLessEqual(first, many * many)
            self.assertEqual(math.lcm(*range(1, many + 1)) % period, 0)
            self.assertEqual(lists_after(folders, script, first), lists_after(folders, script, first + period))

    def test_rings_with_periods_of_their_own(self):
        for many in range(2, 20):
            found, first = powers(TWENTY, ring_turn(TWENTY[:many], "t"))
            self.assertEqual(settling(TWENTY, ring_turn(TWENTY[:many], "t")), (first, many))
        self.assertEqual(settling(TWENTY, RINGS)[1], 2 * 3 * 5 * 7)
        found, first = powers(TWENTY, RINGS)
        self.assertEqual(settling(TWENTY, RINGS), (first, len(found) - first))
        rings = (TWENTY[:3], TWENTY[3:7], TWENTY[7:12], TWENTY[12:19])
        script = tuple(copy for ring in rings for copy in ring_turn(ring, "t"))
        found, first = powers(TWENTY, script)
        self.assertEqual(settling(TWENTY, script), (first, 3 * 4 * 5 * 7))
        self.assertEqual(len(found), first + 420)

    def test_chains_that_go_on_by_one_folder_at_a_time(self):
        for word in ("over", "skip"):
            for many in (2, 3, 7, 20):
                folders = TWENTY[:many]
                script = tuple((word, one, two) for one, two in zip(folders, folders[1:]))[::-1]
                self.assertEqual(settling(folders, script), (many - 1, 1))
                self.assertEqual(len(lists_after(folders, script, many - 2)[folders[-1]]), many - 1)
                self.assertEqual(sorted(lists_after(folders, script, many - 1)[folders[-1]]), list(folders))

    def test_order_of_the_folders_does_not_matter(self):
        for folders in itertools.permutations(FOLDERS):
            self.assertEqual(settling(folders, TURN), (2, 2))

    def test_two_hundred_copies(self):
        script = FORWARD[::-1] * 10 + RINGS[:10]
        self.assertEqual(len(script), 200)
        found, first = powers(TWENTY, script)
        self.assertEqual(settling(TWENTY, script), (first, len(found) - first))
        self.check_raises(InvalidScript, settling, TWENTY, script + script[:1])

    def test_wrong_folders_and_scripts(self):
        for value in wrong_folders():
            self.check_raises(InvalidFolders, settling, value, ())
            self.check_raises(InvalidFolders, settling, value, None)
        for value in wrong_scripts() + foreign_scripts():
            self.check_raises(InvalidScript, settling, FOLDERS, value)


if __name__ == "__main__":
    unittest.main()
