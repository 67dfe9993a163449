"""Facts (a) and (b) [8] over many scripts, against files that the tests copy themselves."""

import itertools
import unittest

from copyover.alike import do_same, telling_contents
from copyover.contents import are_contents, run, winner
from copyover.copies import heads_of, list_of, lists_of
from tests.helper import FOLDERS, Case, Numbers, all_scripts, copied, path_of, telling_all

SIX = ("b", "f", "e", "a", "d", "c")


def many_scripts():
    """Return pairs of folders and a script of them, short ones and long ones."""
    pairs = [(("a", "b"), script) for script in all_scripts(("a", "b"), 4)]
    pairs = pairs + [(FOLDERS, script) for script in all_scripts(FOLDERS, 2)]
    numbers = Numbers(11)
    for length in list(range(3, 40)) + [120, 200]:
        pairs.append((SIX[:3], numbers.script(SIX[:3], length)))
        pairs.append((SIX[:5], numbers.script(SIX[:5], length)))
        pairs.append((SIX, numbers.script(SIX, length)))
    return pairs


def some_contents(numbers, folders):
    """Return contents without a pattern, with texts that several files have."""
    paths = ["x", "y", "a/b", "0", "z.z"]
    return {name: {path: str(numbers.below(3)) for path in paths if numbers.below(2)} for name in folders}


class FactA(Case):
    def test_lists_against_files(self):
        numbers = Numbers(3)
        for folders, script in many_scripts():
            contents = some_contents(numbers, folders)
            behind = copied(contents, script)
            for name, names in lists_of(folders, script).items():
                wanted = {}
                for owner in reversed(names):
                    wanted.update(contents[owner])
                self.assertEqual(behind[name], wanted, (script, name))

    def test_lists_against_the_owners_of_all_paths(self):
        for folders, script in many_scripts():
            behind = copied(telling_all(folders), script)
            lists = lists_of(folders, script)
            for name in folders:
                owners = {path: next(owner for owner in lists[name] if owner in path.split("."))
                          for path in behind[name]}
                self.assertEqual(behind[name], owners)

    def test_each_list_has_different_folders_and_its_own(self):
        for folders, script in many_scripts():
            lists = lists_of(folders, script)
            self.assertEqual(list(lists), sorted(folders))
            for name, names in lists.items():
                self.assertEqual(len(set(names)), len(names))
                self.assertIn(name, names)
                self.assertLessEqual(set(names), set(folders))

    def test_list_of_and_heads_of_against_lists_of(self):
        for folders, script in many_scripts():
            lists = lists_of(folders, script)
            self.assertEqual({name: list_of(folders, script, name) for name in folders}, lists)
            self.assertEqual(heads_of(folders, script), {name: lists[name][0] for name in lists})
            self.assertEqual(list(heads_of(folders, script)), sorted(folders))

    def test_run_against_files(self):
        numbers = Numbers(5)
        for folders, script in many_scripts():
            for contents in (some_contents(numbers, folders), telling_all(folders)):
                behind = run(contents, script)
                self.assertEqual(behind, copied(contents, script))
                self.check_ascending(behind)

    def test_winner_against_run(self):
        for folders, script in many_scripts():
            if len(folders) > 5:
                continue
            behind = run(telling_all(folders), script)
            groups = [group for size in range(1, len(folders) + 1)
                      for group in itertools.combinations(sorted(folders), size)]
            for name, group in itertools.product(folders, groups):
                text = behind[name].get(path_of(group))
                self.assertEqual(winner(folders, script, name, group), text)
                self.assertEqual(winner(folders, script, name, group[::-1]), text)


class FactB(Case):
    def check_pair(self, folders, one, two):
        """Check a pair of scripts, and return whether they do the same."""
        contents = telling_all(folders)
        same = copied(contents, one) == copied(contents, two)
        self.assertIs(do_same(folders, one, two), same, (one, two))
        self.assertEqual(lists_of(folders, one) == lists_of(folders, two), same)
        telling = telling_contents(folders, one, two)
        if same:
            self.assertIsNone(telling, (one, two))
            return same
        self.assertIs(are_contents(telling), True)
        self.assertEqual(list(telling), sorted(folders))
        self.assertEqual(len({path for files in telling.values() for path in files}), 1)
        self.assertIn(len([name for name in telling if telling[name]]), (1, 2))
        self.assertNotEqual(run(telling, one), run(telling, two), (one, two))
        self.assertNotEqual(copied(telling, one), copied(telling, two), (one, two))
        return same

    def test_all_short_scripts_of_two_folders(self):
        answers = [self.check_pair(("a", "b"), one, two)
                   for one, two in itertools.product(all_scripts(("b", "a"), 3), repeat=2)]
        self.assertEqual(set(answers), {True, False})

    def test_short_scripts_of_three_folders(self):
        scripts = all_scripts(FOLDERS, 2)
        answers = [self.check_pair(FOLDERS, one, two) for one, two in itertools.product(scripts, scripts[::3])]
        self.assertEqual(set(answers), {True, False})

    def test_long_scripts(self):
        numbers = Numbers(17)
        answers = []
        for count in range(200):
            folders = SIX[:2 + count % 5]
            script = numbers.script(folders, 5 + numbers.below(60))
            at = numbers.below(len(script))
            answers.append(self.check_pair(folders, script, script[:at] + script[at + 1:]))
            answers.append(self.check_pair(folders, script, numbers.script(folders, len(script))))
            answers.append(self.check_pair(folders, script, script + script[-1:]))
        self.assertEqual(set(answers), {True, False})


if __name__ == "__main__":
    unittest.main()
