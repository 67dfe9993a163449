"""Shortest scripts for shared lists and for heads [8 (c), 8 (d), 13]."""

import itertools
import unittest

from copyover.copies import heads_of, is_script, list_of, lists_of
from copyover.errors import InvalidGroup, InvalidHeads, InvalidWanted, NotPossible
from copyover.plans import are_possible, fewest_for_heads, fewest_shared, plan_for_heads, plan_shared
from tests.helper import (FOLDERS, TWENTY, TWENTY_ONE, Case, Numbers, behind, lists_of_names, wrong_folders,
                          wrong_groups, wrong_heads)


def put_together(ahead, rear):
    """Return the folders of two strings, those that stand in both at their first place only."""
    return ahead + "".join(name for name in rear if name not in ahead)


def least_copies(folders, most):
    """Return the least number of copies, up to most, for all lists that any script of some folders leads to."""
    found = {tuple(folders): 0}
    last = list(found)
    for many in range(1, most + 1):
        reached = []
        for lists in last:
            for source, target in itertools.permutations(range(len(lists)), 2):
                one, two = lists[source], lists[target]
                for both in (put_together(one, two), put_together(two, one)):
                    now = lists[:target] + (both,) + lists[target + 1:]
                    if now not in found:
                        found[now] = many
                        reached.append(now)
        last = reached
    return found


def least_for_groups(found):
    """Return the least number of copies for each list that each group of folders can have together."""
    least = {}
    for lists, many in found.items():
        for wanted in set(lists):
            sharing = tuple(place for place, names in enumerate(lists) if names == wanted)
            least.setdefault((wanted, sharing), many)
    return least


def least_for_heads(folders):
    """Return the least number of copies for all heads that any script of some folders leads to."""
    # Only copies with "over" change heads, and the new heads depend on the old heads alone.
    found = {tuple(folders): 0}
    last = list(found)
    while last:
        reached = []
        for heads in last:
            for source, target in itertools.permutations(range(len(heads)), 2):
                now = heads[:target] + (heads[source],) + heads[target + 1:]
                if now not in found:
                    found[now] = found[heads] + 1
                    reached.append(now)
        last = reached
    return found


def groups_of(names):
    """Return each group of one or more of the names."""
    return [group for size in range(1, len(names) + 1) for group in itertools.combinations(names, size)]


def all_heads(folders):
    """Return all dicts from some folders to some of them."""
    return [dict(zip(folders, heads)) for heads in itertools.product(folders, repeat=len(folders))]


class PlansCase(Case):
    def check_shared(self, wanted, group):
        """Check the plan of a list for a group, and return its length."""
        plan = plan_shared(wanted, group)
        self.assertIs(is_script(plan), True)
        self.assertLessEqual({name for copy in plan for name in copy[1:]}, set(wanted))
        lists = behind(lists_of_names(wanted), plan)
        for name in group:
            self.assertEqual(lists[name], list(wanted), (wanted, group))
            self.assertEqual(list_of(wanted, plan, name), list(wanted))
        self.assertEqual(len(plan), fewest_shared(wanted, group))
        return len(plan)

    def check_heads(self, heads):
        """Check the plan for heads, and return its length."""
        plan = plan_for_heads(heads)
        self.assertIs(is_script(plan), True)
        self.assertEqual({name: names[0] for name, names in behind(lists_of_names(heads), plan).items()}, heads, plan)
        self.assertEqual(heads_of(tuple(heads), plan), heads)
        self.assertEqual(len(plan), fewest_for_heads(heads))
        return len(plan)

    def check_not_possible(self, heads):
        """Check that no script leads to heads."""
        self.assertIs(are_possible(heads), False, heads)
        self.check_raises(NotPossible, fewest_for_heads, heads)
        self.check_raises(NotPossible, plan_for_heads, heads)


class Shared(PlansCase):
    def test_document(self):
        self.assertEqual([fewest_shared(("b", "a", "c"), ("a", "b", "c")),
                          list_of(("a", "b", "c"), plan_shared(("b", "a", "c"), ("c",)), "c")], [4, ["b", "a", "c"]])

    def test_one_name(self):
        self.assertEqual([fewest_shared(("abcdefgh",), ("abcdefgh",)), plan_shared(("z",), ("z",))], [0, ()])

    def test_each_group_in_each_order(self):
        for many in range(1, 5):
            for wanted in itertools.permutations("abcd"[:many]):
                for group in groups_of(wanted):
                    for turned in itertools.permutations(group):
                        self.assertEqual(self.check_shared(wanted, turned), many - 1 + len(group) - 1)

    def test_twenty_names(self):
        self.assertEqual(self.check_shared(TWENTY, TWENTY), 38)
        self.assertEqual(self.check_shared(TWENTY[::-1], TWENTY), 38)
        for name in TWENTY:
            self.assertEqual(self.check_shared(TWENTY, (name,)), 19)
        self.assertEqual(self.check_shared(TWENTY, ("k", "b", "s", "t")), 22)

    def test_all_alike_with_two_copies_for_each_folder_but_one(self):
        for many in range(2, 21):
            self.assertEqual(self.check_shared(TWENTY[:many], TWENTY[:many]), 2 * many - 2)

    def test_wanted_names(self):
        for value in wrong_folders() + [TWENTY_ONE, ()]:
            for function in (fewest_shared, plan_shared):
                self.check_raises(InvalidWanted, function, value, ("a",))
                self.check_raises(InvalidWanted, function, value, None)
                self.check_raises(InvalidWanted, function, value, ())

    def test_groups(self):
        for value in wrong_groups():
            for function in (fewest_shared, plan_shared):
                self.check_raises(InvalidGroup, function, FOLDERS, value)
                self.check_raises(InvalidGroup, function, ("c", "a", "b"), value)
                self.check_raises(InvalidWanted, function, list(FOLDERS), value)
        for group in ((), ("d",), ("a", "d"), ("a", "a"), ("a", "b", "a"), TWENTY):
            self.check_raises(InvalidGroup, fewest_shared, FOLDERS, group)
            self.check_raises(InvalidGroup, plan_shared, FOLDERS, group)


class FactC(PlansCase):
    def check_least(self, folders, most):
        """Check the least numbers against a search through all scripts with at most so many copies."""
        least = least_for_groups(least_copies(folders, most))
        for size in range(1, len(folders) + 1):
            for wanted in itertools.permutations(folders, size):
                for group in groups_of(range(len(wanted))):
                    names = tuple(wanted[place] for place in group)
                    places = {folders.index(name) for name in names}
                    found = [many for (key, sharing), many in least.items()
                             if key == "".join(wanted) and places <= set(sharing)]
                    many = fewest_shared(wanted, names)
                    if many <= most:
                        self.assertEqual(min(found), many, (wanted, names))
                    else:
                        self.assertEqual(found, [])

    def test_two_folders(self):
        self.check_least("ab", 20)

    def test_three_folders(self):
        self.check_least("abc", 20)

    def test_four_folders(self):
        # A script with one copy more leads to every list that none of these leads to: the plan that is made.
        self.check_least("abcd", 5)

    def test_each_list_with_its_own_folder_can_be_got(self):
        reached = {(folder, names) for lists in least_copies("abc", 20) for folder, names in zip("abc", lists)}
        wanted = {(folder, "".join(names)) for size in (1, 2, 3) for names in itertools.permutations("abc", size)
                  for folder in names}
        self.assertEqual(reached, wanted)


class Heads(PlansCase):
    def test_document(self):
        self.assertEqual([are_possible({"a": "b", "b": "a"}), fewest_for_heads({"a": "b", "b": "a", "c": "c", "d": "c"})],
                         [False, 4])
        self.assertEqual(self.check_heads({"a": "b", "b": "a", "c": "c", "d": "c"}), 4)

    def test_all_their_own(self):
        for folders in (("abcdefgh",), ("a", "b"), TWENTY):
            heads = {name: name for name in folders}
            self.assertIs(are_possible(heads), True)
            self.assertEqual([fewest_for_heads(heads), plan_for_heads(heads)], [0, ()])

    def test_one_ring_of_all(self):
        for many in range(2, 21):
            self.check_not_possible(dict(zip(TWENTY[:many], TWENTY[1:many] + TWENTY[:1])))

    def test_rings_and_folders_that_are_their_own_heads(self):
        self.check_not_possible({"a": "b", "b": "a", "c": "c"})
        self.check_not_possible({"a": "b", "b": "a", "c": "d", "d": "c"})
        self.check_not_possible({**{name: name for name in TWENTY}, "s": "t", "t": "s"})

    def test_several_bare_rings(self):
        heads = {"a": "b", "b": "a", "c": "d", "d": "e", "e": "c", "f": "f", "g": "f"}
        self.assertEqual(self.check_heads(heads), 5 + 1 + 2)
        self.assertIs(are_possible(heads), True)
        pairs = {**dict(zip(TWENTY[:18:2], TWENTY[1:18:2])), **dict(zip(TWENTY[1:18:2], TWENTY[:18:2]))}
        self.assertEqual(self.check_heads({**pairs, "s": "s", "t": "s"}), 18 + 1 + 9)
        self.assertEqual(self.check_heads({"a": "b", "b": "a", "z": "y", "y": "x", "x": "x", "c": "d", "d": "c"}), 8)

    def test_a_ring_that_a_further_folder_hangs_on(self):
        self.assertEqual(self.check_heads({"a": "b", "b": "a", "c": "a"}), 3)
        self.assertEqual(self.check_heads({"a": "b", "b": "a", "c": "b", "d": "c"}), 4)
        self.assertEqual(self.check_heads({"a": "b", "b": "a", "c": "b", "d": "a"}), 4)
        ring = dict(zip(TWENTY[:19], TWENTY[1:19] + TWENTY[:1]))
        for name in TWENTY[:19]:
            self.assertEqual(self.check_heads({**ring, "t": name}), 20)

    def test_bare_rings_beside_one_with_a_further_folder(self):
        heads = {"a": "b", "b": "a", "c": "d", "d": "c", "e": "c", "f": "g", "g": "f"}
        self.assertEqual(self.check_heads(heads), 7 + 2)
        self.assertEqual(self.check_heads({**heads, "h": "a"}), 8 + 1)
        self.assertEqual(self.check_heads({**heads, "h": "a", "i": "h", "j": "g"}), 10)

    def test_one_head_for_all(self):
        for name in TWENTY:
            self.assertEqual(self.check_heads(dict.fromkeys(TWENTY, name)), 19)
        self.assertEqual(self.check_heads({"a": "a"}), 0)

    def test_chains_and_trees(self):
        chain = dict(zip(TWENTY, TWENTY[1:] + TWENTY[-1:]))
        self.assertEqual(self.check_heads(chain), 19)
        self.assertEqual(self.check_heads({name: TWENTY[max(0, place - 1)] for place, name in enumerate(TWENTY)}), 19)
        self.assertEqual(self.check_heads({name: TWENTY[place // 2] for place, name in enumerate(TWENTY)}), 19)
        self.assertEqual(self.check_heads({"b": "a", "a": "d", "c": "d", "d": "d", "e": "a"}), 4)

    def test_heads_without_a_pattern(self):
        numbers = Numbers(31)
        for count in range(300):
            folders = TWENTY[:2 + count % 19]
            heads = {name: folders[numbers.below(len(folders))] for name in folders}
            if set(heads.values()) == set(folders) and any(heads[name] != name for name in heads):
                self.check_not_possible(heads)
            else:
                self.assertIs(are_possible(heads), True)
                self.check_heads(heads)

    def test_heads_of_scripts_are_possible(self):
        numbers = Numbers(37)
        for count in range(200):
            folders = TWENTY[:2 + count % 19]
            script = numbers.script(folders, numbers.below(40))
            heads = {name: names[0] for name, names in lists_of(folders, script).items()}
            self.assertIs(are_possible(heads), True)
            self.assertLessEqual(self.check_heads(heads), len(script))

    def test_order_of_the_keys_does_not_matter(self):
        for heads in ({"a": "b", "b": "a", "c": "d", "d": "c", "e": "e", "f": "e", "g": "e"},
                      {"a": "b", "b": "a", "c": "a", "d": "b", "e": "c"}, {"a": "b", "b": "c", "c": "c", "d": "a"}):
            for turned in (dict(reversed(heads.items())), dict(sorted(heads.items(), key=lambda item: item[1]))):
                self.assertEqual(plan_for_heads(turned), plan_for_heads(heads))
                self.assertEqual(fewest_for_heads(turned), fewest_for_heads(heads))
                self.assertIs(are_possible(turned), are_possible(heads))

    def test_wrong_heads(self):
        for value in wrong_heads():
            for function in (are_possible, fewest_for_heads, plan_for_heads):
                self.check_raises(InvalidHeads, function, value)


class FactD(PlansCase):
    def check_all(self, folders, least):
        """Check all heads of some folders against the least numbers that a search found."""
        for heads in all_heads(folders):
            many = least.get(tuple(heads[name] for name in folders))
            if many is None:
                self.check_not_possible(heads)
            else:
                self.assertIs(are_possible(heads), True, heads)
                self.assertEqual(self.check_heads(heads), many, heads)

    def test_two_and_three_folders_through_all_lists(self):
        for folders in ("ab", "abc"):
            least = {}
            for lists, many in least_copies(folders, 20).items():
                least.setdefault(tuple(names[0] for names in lists), many)
            self.assertEqual(least, least_for_heads(folders))
            self.check_all(folders, least)

    def test_one_to_five_folders(self):
        for many in range(1, 6):
            self.check_all("abcde"[:many], least_for_heads("abcde"[:many]))


if __name__ == "__main__":
    unittest.main()
