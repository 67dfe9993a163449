"""Copies without effect [15]."""

import itertools
import unittest

from copyover.errors import InvalidFolders, InvalidScript
from copyover.trimming import idle_copies, is_trimmed, trimmed
from tests.helper import (FOLDERS, TURN, TWENTY, TWENTY_ONE, Case, Numbers, all_scripts, behind, foreign_scripts,
                          lists_of_names, wrong_folders, wrong_scripts)

SCRIPT = (("over", "a", "b"), ("skip", "a", "b"), ("skip", "b", "a"))
OVER, SKIP = ("over", "a", "b"), ("skip", "a", "b")
CHAIN = tuple(("over", one, two) for one, two in zip(TWENTY, TWENTY[1:]))


def lists_made(folders, script):
    """Return the lists behind a script, made one by one."""
    return behind(lists_of_names(folders), script)


def idle_numbers(folders, script):
    """Return the numbers of the idle copies, found by leaving out each one."""
    lists = lists_made(folders, script)
    return [at for at in range(len(script)) if lists_made(folders, script[:at] + script[at + 1:]) == lists]


def some_of(script):
    """Return all tuples of some of the copies of a script, in their order."""
    return [part for size in range(len(script) + 1) for part in itertools.combinations(script, size)]


def some_scripts():
    """Return pairs of folders and a script of them, short ones and long ones."""
    pairs = [(("b", "a"), script) for script in all_scripts(("a", "b"), 4)]
    pairs = pairs + [(FOLDERS, script) for script in all_scripts(FOLDERS, 3)]
    numbers = Numbers(43)
    for count in range(120):
        folders = TWENTY[:2 + count % 6]
        pairs.append((folders, numbers.script(folders, 4 + numbers.below(20))))
    return pairs + [(TWENTY, numbers.script(TWENTY, 60)), (TWENTY, CHAIN), (TWENTY, ()), (("z",), ())]


class IdleCopies(Case):
    def test_document(self):
        self.assertEqual(idle_copies(("a", "b"), SCRIPT), [1])

    def test_nothing_is_idle(self):
        for folders, script in ((FOLDERS, ()), (FOLDERS, TURN), (FOLDERS, (SKIP,)), (TWENTY, CHAIN), (("z",), ())):
            self.assertEqual(idle_copies(folders, script), [])

    def test_all_is_idle(self):
        self.assertEqual(idle_copies(FOLDERS, (OVER,) * 2), [0, 1])
        self.assertEqual(idle_copies(FOLDERS, (SKIP,) * 200), list(range(200)))

    def test_one_of_two_equal_copies(self):
        self.assertEqual(idle_copies(FOLDERS, (OVER, ("over", "c", "b"), OVER)), [0])
        self.assertEqual(idle_copies(FOLDERS, (SKIP, ("skip", "c", "b"), SKIP)), [2])

    def test_a_copy_is_needed_if_another_folder_takes_the_list_between(self):
        self.assertEqual(idle_copies(FOLDERS, (OVER, ("over", "c", "b"), OVER)), [0])
        self.assertEqual(idle_copies(FOLDERS, (OVER, ("skip", "b", "c"), ("over", "c", "b"), OVER)), [])

    def test_against_leaving_out_each_copy(self):
        for folders, script in some_scripts():
            self.assertEqual(idle_copies(folders, script), idle_numbers(folders, script), script)

    def test_two_hundred_copies(self):
        script = Numbers(47).script(TWENTY, 200)
        self.assertEqual(idle_copies(TWENTY, script), idle_numbers(TWENTY, script))
        self.check_raises(InvalidScript, idle_copies, TWENTY, script + (OVER,))

    def test_wrong_folders_and_scripts(self):
        for function, rest in ((idle_copies, ()), (trimmed, ()), (is_trimmed, ((),))):
            for value in wrong_folders() + [TWENTY_ONE]:
                self.check_raises(InvalidFolders, function, value, (), *rest)
                self.check_raises(InvalidFolders, function, value, None, *rest)
            for value in wrong_scripts() + foreign_scripts():
                self.check_raises(InvalidScript, function, FOLDERS, value, *rest)


class TrimmedCase(Case):
    def check_trimmed(self, folders, script):
        """Check the trimmed script, and return it."""
        kept = trimmed(folders, script)
        self.assertIs(type(kept), tuple)
        rest = iter(script)
        self.assertTrue(all(copy in rest for copy in kept), (script, kept))
        self.assertEqual(lists_made(folders, kept), lists_made(folders, script))
        self.assertEqual(idle_numbers(folders, kept), [])
        self.assertIs(is_trimmed(folders, script, kept), True)
        return kept


class Trimmed(TrimmedCase):
    def test_document(self):
        self.assertEqual(trimmed(("a", "b"), SCRIPT), (OVER, ("skip", "b", "a")))

    def test_nothing_is_idle(self):
        for folders, script in ((FOLDERS, ()), (FOLDERS, TURN), (FOLDERS, (SKIP,)), (TWENTY, CHAIN), (("z",), ())):
            self.assertEqual(self.check_trimmed(folders, script), script)

    def test_all_is_idle(self):
        self.assertEqual(self.check_trimmed(FOLDERS, (OVER,) * 200), (OVER,))
        self.assertEqual(self.check_trimmed(FOLDERS, (SKIP, SKIP)), (SKIP,))

    def test_one_of_two_equal_copies(self):
        self.assertEqual(self.check_trimmed(FOLDERS, (OVER, ("over", "c", "b"), OVER)), (("over", "c", "b"), OVER))

    def test_a_copy_that_is_idle_only_once_a_later_one_is_left_out(self):
        script = (("skip", "c", "a"), ("skip", "b", "a"), ("over", "c", "b"), ("skip", "b", "a"))
        self.assertEqual(idle_numbers(FOLDERS, script), [1, 3])
        self.assertEqual(idle_numbers(FOLDERS, script[:1] + script[2:]), [0])
        self.assertIs(is_trimmed(FOLDERS, script, script[:1] + script[2:]), False)
        self.check_trimmed(FOLDERS, script)

    def test_many_scripts(self):
        for folders, script in some_scripts():
            self.check_trimmed(folders, script)

    def test_two_hundred_copies(self):
        numbers = Numbers(53)
        for many in (2, 3, 5, 20):
            script = numbers.script(TWENTY[:many], 200)
            self.assertLess(len(self.check_trimmed(TWENTY[:many], script)), 200)
            self.check_raises(InvalidScript, trimmed, TWENTY[:many], script + (OVER,))


class IsTrimmed(TrimmedCase):
    def test_document(self):
        self.assertIs(is_trimmed(("a", "b"), SCRIPT, SCRIPT), False)

    def test_against_leaving_out_each_copy(self):
        numbers = Numbers(59)
        scripts = all_scripts(FOLDERS, 3)[::7]
        for script in scripts + [numbers.script(FOLDERS, 6) for _ in range(30)]:
            parts = some_of(script)
            for value in parts + scripts[::10] + [script[::-1], script + script]:
                answer = (value in parts and lists_made(FOLDERS, value) == lists_made(FOLDERS, script)
                          and idle_numbers(FOLDERS, value) == [])
                self.assertIs(is_trimmed(FOLDERS, script, value), answer, (script, value))

    def test_several_answers(self):
        script = (OVER, ("skip", "c", "b"), OVER)
        self.assertIs(is_trimmed(FOLDERS, script, script[:2]), True)
        self.assertIs(is_trimmed(FOLDERS, script, script[1:]), True)
        self.assertIs(is_trimmed(FOLDERS, script, script[::2]), False)
        self.assertIs(is_trimmed(FOLDERS, script, (OVER, ("skip", "c", "b"))[::-1]), True)

    def test_copies_that_are_not_of_the_script(self):
        self.assertIs(is_trimmed(FOLDERS, (("over", "a", "b"), ("skip", "c", "b")), (OVER, ("skip", "c", "b"))), True)
        self.assertIs(is_trimmed(("a", "b"), (OVER, ("over", "b", "a")), (OVER, ("over", "b", "a"))), True)
        self.assertIs(is_trimmed(("a", "b"), (OVER, ("over", "b", "a")), (OVER, ("skip", "b", "a"))), False)
        # They lead to the same lists, but in another order.
        two = (OVER, ("over", "a", "c"))
        self.assertEqual(lists_made(FOLDERS, two), lists_made(FOLDERS, two[::-1]))
        self.assertIs(is_trimmed(FOLDERS, two, two), True)
        self.assertIs(is_trimmed(FOLDERS, two, two[::-1]), False)
        self.assertIs(is_trimmed(FOLDERS, two, two + two), False)

    def test_the_empty_script(self):
        self.assertIs(is_trimmed(FOLDERS, (), ()), True)
        self.assertIs(is_trimmed(("z",), (), ()), True)
        self.assertIs(is_trimmed(FOLDERS, (OVER,), ()), False)

    def test_two_hundred_copies(self):
        script = (OVER,) * 200
        self.assertIs(is_trimmed(FOLDERS, script, (OVER,)), True)
        self.assertIs(is_trimmed(FOLDERS, script, script), False)
        self.assertIs(is_trimmed(FOLDERS, script, script + (OVER,)), False)
        self.check_raises(InvalidScript, is_trimmed, FOLDERS, script + (OVER,), (OVER,))

    def test_any_value(self):
        for script in (TURN, (OVER,), (OVER, ("skip", "c", "a"))):
            for value in wrong_scripts() + foreign_scripts() + [list(script), [list(copy) for copy in script]]:
                self.assertIs(is_trimmed(FOLDERS, script, value), False, repr(value)[:300])
        for value in wrong_scripts():
            self.check_raises(InvalidScript, is_trimmed, FOLDERS, list(TURN), value)
            self.check_raises(InvalidFolders, is_trimmed, list(FOLDERS), TURN, value)


if __name__ == "__main__":
    unittest.main()
