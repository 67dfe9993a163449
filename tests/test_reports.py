"""Reports, their contradictions, and the lists that explain them [8 (f), 14, 16]."""

import itertools
import unittest

from copyover.contents import winner
from copyover.copies import list_of
from copyover.errors import Contradiction, InvalidFolders, InvalidName, InvalidReports
from copyover.reports import contradiction, explaining_list, is_contradiction
from tests.helper import (FOLDERS, TURN, TWENTY, TWENTY_ONE, Agreeable, Case, Numbers, Unhashable, odd_values,
                          wrong_folders, wrong_of_folders, wrong_reports)

# The order of the folders is not the ascending one.
FIVE = ("d", "b", "e", "a", "c")
NOT_LOST = (("b", "c"), None)


def lists_of_folder(folders, name):
    """Return all lists of a folder."""
    return [list(names) for length in range(1, len(folders) + 1)
            for names in itertools.permutations(folders, length) if name in names]


def explains(names, reports):
    """Return whether a list explains reports."""
    return all(next((folder for folder in names if folder in having), None) == seen for having, seen in reports)


def needed_of(name, reports):
    """Return the needed folders."""
    return {name} | {seen for _, seen in reports if seen is not None}


def is_one(name, reports, value):
    """Return whether a tuple that begins with "lost" or "ring" is a contradiction, read off the document."""
    if value[0] == "lost":
        _, at, other = value
        return 0 <= at < len(reports) and reports[at][1] is None and other in reports[at][0] and (
            other in needed_of(name, reports))
    numbers = value[1]
    if len(numbers) < 2 or not all(0 <= number < len(reports) for number in numbers):
        return False
    seen = [reports[number][1] for number in numbers]
    if None in seen or len(set(seen)) < len(seen):
        return False
    return all(seen[at] in reports[numbers[at - 1]][0] for at in range(len(numbers)))


def all_reports(folders):
    """Return all reports with some folders."""
    groups = [group for size in range(1, len(folders) + 1) for group in itertools.combinations(folders, size)]
    return [(group, seen) for group in groups for seen in group + (None,)]


def some_reports(numbers, folders, many):
    """Return so many reports without a pattern, of which most see a folder."""
    reports = []
    for _ in range(many):
        rest = list(folders)
        having = [rest.pop(numbers.below(len(rest))) for _ in range(1 + numbers.below(len(folders)))]
        reports.append((tuple(having), having[numbers.below(len(having))] if numbers.below(6) else None))
    return tuple(reports)


def told_reports(numbers, folders, script, name, many):
    """Return so many reports that winner tells of a script."""
    reports = []
    for _ in range(many):
        rest = list(folders)
        having = tuple(rest.pop(numbers.below(len(rest))) for _ in range(1 + numbers.below(len(folders))))
        reports.append((having, winner(folders, script, name, having)))
    return tuple(reports)


def ring_reports(folders):
    """Return a ring of reports: each one sees a folder, and has the next one, too."""
    return tuple(((following, folder), folder) for folder, following in zip(folders, folders[1:] + folders[:1]))


class ReportCase(Case):
    def check_reports(self, folders, name, reports, lists):
        """Check all answers for reports against all lists of the folder, and return whether they are explained."""
        found = contradiction(folders, name, reports)
        explaining = [names for names in lists if explains(names, reports)]
        self.assertEqual(found is None, len(explaining) > 0, (folders, name, reports))
        if found is None:
            needed = needed_of(name, reports)
            least = min(names for names in explaining if set(names) == needed)
            self.assertEqual(explaining_list(folders, name, reports), least, (folders, name, reports))
            return True
        self.check_contradiction(folders, name, reports)
        return False

    def check_contradiction(self, folders, name, reports):
        """Check that reports have a contradiction, and return it."""
        found = contradiction(folders, name, reports)
        self.assertIs(type(found), tuple)
        self.assertIs(is_one(name, reports, found), True, (folders, name, reports, found))
        self.assertIs(is_contradiction(folders, name, reports, found), True)
        self.check_raises(Contradiction, explaining_list, folders, name, reports)
        with self.assertRaises(Contradiction) as caught:
            explaining_list(folders, name, reports)
        self.assertIs(is_one(name, reports, caught.exception.value), True)
        self.assertIs(is_contradiction(folders, name, reports, caught.exception.value), True)
        return found


class Examples(ReportCase):
    def test_document(self):
        self.assertEqual(explaining_list(FOLDERS, "c", ((("a", "c"), "a"), (("b", "a"), "b"))), ["b", "a", "c"])
        self.assertEqual(contradiction(FOLDERS, "c", ((("b", "c"), None),)), ("lost", 0, "c"))
        self.assertIs(is_contradiction(FOLDERS, "c", ((("a", "b"), "a"), (("a", "b"), "b")), ("ring", (0, 1))), True)

    def test_no_reports(self):
        for name in FOLDERS:
            self.assertIsNone(contradiction(FOLDERS, name, ()))
            self.assertEqual(explaining_list(FOLDERS, name, ()), [name])
            for value in (("lost", 0, name), ("ring", ()), ("ring", (0,)), ("ring", (0, 1)), None, ()):
                self.assertIs(is_contradiction(FOLDERS, name, (), value), False)
        self.assertEqual(explaining_list(("z",), "z", ()), ["z"])

    def test_having_of_one_folder(self):
        self.assertEqual(explaining_list(FOLDERS, "b", ((("a",), "a"),)), ["a", "b"])
        self.assertEqual(explaining_list(FOLDERS, "b", ((("c",), "c"), (("a",), "a"))), ["a", "b", "c"])
        self.assertEqual(explaining_list(FOLDERS, "b", ((("a",), None), (("c",), None))), ["b"])

    def test_having_of_all_folders_in_any_order(self):
        for having in itertools.permutations(FOLDERS):
            for name, seen in itertools.product(FOLDERS, repeat=2):
                names = [name] if seen == name else [seen, name]
                self.assertEqual(explaining_list(FOLDERS, name, ((having, seen),)), names)
            self.assertEqual(contradiction(FOLDERS, "b", ((having, None),)), ("lost", 0, "b"))
        self.assertEqual(explaining_list(TWENTY, "a", ((TWENTY, "t"),)), ["t", "a"])

    def test_reports_about_the_folder_itself(self):
        self.assertEqual(explaining_list(FOLDERS, "b", ((("b",), "b"),)), ["b"])
        self.assertEqual(explaining_list(FOLDERS, "b", ((("a", "b"), "b"), (("c",), "c"))), ["b", "c"])
        self.assertEqual(explaining_list(FOLDERS, "b", ((("a", "b"), "b"), (("a",), "a"))), ["b", "a"])
        self.assertEqual(contradiction(FOLDERS, "b", ((("b",), None),)), ("lost", 0, "b"))
        self.assertEqual(contradiction(FOLDERS, "b", ((("c",), None), (("a", "b"), None))), ("lost", 1, "b"))

    def test_none_seen(self):
        self.assertEqual(explaining_list(FOLDERS, "b", ((("a", "c"), None),)), ["b"])
        self.assertEqual(explaining_list(FOLDERS, "b", ((("c",), None), (("a", "c"), "a"))), ["a", "b"])
        self.assertEqual(contradiction(FOLDERS, "b", ((("c",), "c"), (("a", "c"), None))), ("lost", 1, "c"))
        self.assertEqual(contradiction(FOLDERS, "b", ((("a", "c"), None), (("c",), "c"))), ("lost", 0, "c"))

    def test_least_list(self):
        self.assertEqual(explaining_list(FIVE, "e", tuple(((name,), name) for name in FIVE)), list("abcde"))
        self.assertEqual(explaining_list(FIVE, "e", ((("d", "a"), "d"), (("b",), "b"), (("a",), "a"))), list("bdae"))
        folders = ("b", "ab", "aa", "a")
        self.assertEqual(explaining_list(folders, "b", tuple(((name,), name) for name in folders)),
                         ["a", "aa", "ab", "b"])

    def test_folders_that_are_not_needed_stay_out(self):
        self.assertEqual(explaining_list(FIVE, "e", ((("d", "a", "b"), "d"),)), ["d", "e"])
        self.assertIsNone(contradiction(FIVE, "e", ((("d", "a"), "d"), (("a", "b"), None))))

    def test_the_same_report_twice(self):
        for report in ((("a", "b"), "a"), (("a",), None), (("b", "a"), "b")):
            self.assertEqual(explaining_list(FOLDERS, "b", (report,) * 2), explaining_list(FOLDERS, "b", (report,)))
            self.assertEqual(explaining_list(FOLDERS, "b", (report,) * 40), explaining_list(FOLDERS, "b", (report,)))
        self.assertEqual(self.check_contradiction(FOLDERS, "c", (NOT_LOST,) * 2)[0], "lost")

    def test_forty_and_more(self):
        reports = tuple((TWENTY[at:] + TWENTY[:at // 2], TWENTY[at]) for at in range(10)) * 4
        self.assertEqual(len(reports), 40)
        self.check_contradiction(TWENTY, "a", reports)
        reports = tuple((TWENTY[at:], TWENTY[at]) for at in range(20)) * 2
        self.assertEqual(explaining_list(TWENTY, "k", reports), list(TWENTY))
        self.assertIsNone(contradiction(TWENTY, "k", reports))
        for function, rest in ((contradiction, ()), (explaining_list, ()), (is_contradiction, (None,))):
            self.check_raises(InvalidReports, function, TWENTY, "k", reports + reports[:1], *rest)

    def test_order_of_the_folders_does_not_matter(self):
        reports = ((("a", "c"), "c"), (("b", "a"), "a"))
        for folders in itertools.permutations(FOLDERS):
            self.assertEqual(explaining_list(folders, "b", reports), ["c", "a", "b"])


class Rings(ReportCase):
    def test_rings_of_two_to_twenty(self):
        for many in range(2, 21):
            for reports in (ring_reports(TWENTY[:many]), ring_reports(TWENTY[:many][::-1])):
                for name in (TWENTY[0], TWENTY[many - 1], TWENTY[19]):
                    kind, numbers = self.check_contradiction(TWENTY, name, reports)
                    self.assertEqual((kind, sorted(numbers)), ("ring", list(range(many))))

    def test_turned_at_each_place(self):
        for many in (2, 3, 20):
            reports = ring_reports(TWENTY[:many])
            numbers = tuple(range(many))
            for at in range(many):
                turned = numbers[at:] + numbers[:at]
                self.assertIs(is_contradiction(TWENTY, "a", reports, ("ring", turned)), True)
                self.assertIs(is_contradiction(TWENTY, "a", reports, ("ring", turned[::-1])), many == 2)
                self.assertIs(is_contradiction(TWENTY, "a", reports, ("ring", turned[1:])), False)
                self.assertIs(is_contradiction(TWENTY, "a", reports, ("ring", turned + turned[:1])), False)
                self.assertIs(is_contradiction(TWENTY, "a", reports, ("ring", turned + turned)), False)
                for wrong in (-1, -many, many, many + 1):
                    for place in range(many):
                        beyond = turned[:place] + (wrong,) + turned[place + 1:]
                        self.assertIs(is_contradiction(TWENTY, "a", reports, ("ring", beyond)), False)

    def test_rings_of_one_and_of_none(self):
        reports = ring_reports(FOLDERS) + ((("a",), "a"),)
        for numbers in ((), (0,), (1,), (2,), (3,), (0, 0), (3, 3), (0, 3), (0, 1, 2, 3)):
            self.assertIs(is_contradiction(FOLDERS, "a", reports, ("ring", numbers)), False)
        self.assertIs(is_contradiction(FOLDERS, "a", reports, ("ring", (1, 2, 0))), True)

    def test_the_same_folder_seen_twice(self):
        reports = ((("a", "b"), "a"), (("a", "b"), "b"), (("a", "b"), "a"), (("a", "b"), "b"))
        for numbers in itertools.product(range(4), repeat=2):
            self.assertIs(is_contradiction(FOLDERS, "c", reports, ("ring", numbers)), sum(numbers) % 2 == 1)
        self.assertIs(is_contradiction(FOLDERS, "c", reports, ("ring", (0, 1, 2, 3))), False)

    def test_reports_that_see_nothing_are_in_no_ring(self):
        reports = ((("a", "b"), "a"), (("a", "b"), None), (("c",), None))
        for length in (2, 3):
            for numbers in itertools.product(range(3), repeat=length):
                self.assertIs(is_contradiction(FOLDERS, "c", reports, ("ring", numbers)), False)

    def test_ring_behind_folders_that_can_stand_first(self):
        reports = ((("a", "b"), "a"), (("b", "c"), "b"), (("c", "d"), "c"), (("d", "c", "e"), "d"))
        self.assertEqual(self.check_contradiction(FIVE, "e", reports)[0], "ring")
        self.assertEqual(sorted(contradiction(FIVE, "e", reports)[1]), [2, 3])

    def test_folders_that_wait_for_a_ring_without_being_in_it(self):
        reports = ((("b", "a"), "b"), (("c", "b"), "c"), (("d", "c"), "d"), (("c", "d"), "c"), (("a",), "a"))
        for name in FIVE:
            self.assertEqual(sorted(self.check_contradiction(FIVE, name, reports)[1]), [2, 3])


class IsContradiction(ReportCase):
    def test_lost(self):
        reports = ((("a", "b"), None), (("a", "c"), "a"), (("c", "b"), None), (("b",), None))
        right = {(0, "a"), (2, "c")}
        for at, other in itertools.product((-4, -1, 0, 1, 2, 3, 4, 10 ** 59), ("a", "b", "c", "d", "")):
            answer = is_contradiction(FOLDERS, "c", reports, ("lost", at, other))
            self.assertIs(answer, (at, other) in right, (at, other))

    def test_all_others(self):
        reports = ((("a", "b"), "a"), (("a", "b"), "b"), (("c",), None))
        good = [("ring", (0, 1)), ("ring", (1, 0)), ("lost", 2, "c")]
        for value in good:
            self.assertIs(is_contradiction(FOLDERS, "c", reports, value), True)
        words = [None, 0, True, b"ring", b"lost", "", "Ring", "lost ", "rin", "x", ["ring"], ("ring",), Agreeable(),
                 Unhashable(), object()]
        numbers = [None, 0, 1, True, "01", b"01", [0, 1], {0, 1}, {0: 1, 1: 0}, range(2), iter((0, 1)), (0, True),
                   (False, 1), (False, True), ("0", "1"), (0, "1"), (None, 0), ((0, 1),), (0, (1,)), (0, [1]),
                   (0, 1, 2), (0, 2), (2, 0), (0, 1, 0), (0, 1, 0, 1), (0, Agreeable()), (Agreeable(), Agreeable()),
                   Agreeable(), (Unhashable(), 1), (0, 10 ** 59), (-3, -2), (-3, 1), (0, -2), (0, 3), ("a", "b"),
                   (0,), ()]
        wrong = [(word, (0, 1)) for word in words] + [(word, 2, "c") for word in words]
        wrong = wrong + [("ring", value) for value in numbers] + [("lost", value, "c") for value in words + numbers]
        wrong = wrong + [("lost", 2, value) for value in words + numbers + ["a", "b", "d", "C", "c ", "cc"]]
        wrong = wrong + [list(value) for value in good] + [(value,) for value in good] + [value * 2 for value in good]
        wrong = wrong + [value + (None,) for value in good] + [value[:-1] for value in good]
        wrong = wrong + [("lost", 2), ("lost", "c"), ("lost", "c", 2), ("lost", 2, "c", 0), ("ring", 0, 1), ("ring",),
                         ("lost",), ("lost", (0, 1)), ("ring", 2, "c"), ("lost", 2, ["c"]), ("ring", (0, 1), "c"),
                         (2, "c"), ((0, 1),), ("lost", -1, "c"), ("lost", True, "c"), ("lost", "2", "c"), (), "ring",
                         "lost", {"ring": (0, 1)}, {"lost", 2, "c"}, iter(("lost", 2, "c"))]
        for value in odd_values() + wrong:
            self.assertIs(is_contradiction(FOLDERS, "c", reports, value), False, repr(value)[:300])

    def test_true_is_no_number(self):
        reports = ((("a", "b"), "a"), (("a", "b"), "b"), (("c",), None))
        self.assertIs(is_contradiction(FOLDERS, "c", reports[::-1], ("lost", False, "c")), False)
        self.assertIs(is_contradiction(FOLDERS, "c", reports[::-1], ("lost", 0, "c")), True)
        self.assertIs(is_contradiction(FOLDERS, "c", reports, ("ring", (False, True))), False)

    def test_against_the_document(self):
        numbers = Numbers(71)
        answers = []
        for count in range(250):
            folders = FIVE[:2 + count % 4]
            reports = some_reports(numbers, folders, numbers.below(6))
            name = folders[numbers.below(len(folders))]
            places = range(-1, len(reports) + 1)
            values = [("lost", at, other) for at in places for other in FIVE]
            values = values + [("ring", ring) for size in range(5) for ring in itertools.product(places, repeat=size)]
            for value in values:
                answers.append(is_one(name, reports, value))
                self.assertIs(is_contradiction(folders, name, reports, value), answers[-1], (name, reports, value))
        self.assertGreater(answers.count(True), 300)


class FactF(ReportCase):
    def test_all_reports_of_one_and_two_folders(self):
        for many in range(4):
            for reports in itertools.product(all_reports(("a",)), repeat=many):
                self.check_reports(("a",), "a", reports, [["a"]])
            for name in "ab":
                lists = lists_of_folder(("b", "a"), name)
                for reports in itertools.product(all_reports(("b", "a")), repeat=many):
                    self.check_reports(("b", "a"), name, reports, lists)

    def test_reports_of_three_folders(self):
        answers = []
        for name in FOLDERS:
            lists = lists_of_folder(FOLDERS, name)
            for many in range(3):
                for reports in itertools.product(all_reports(FOLDERS), repeat=many):
                    answers.append(self.check_reports(FOLDERS, name, reports, lists))
            for reports in list(itertools.product(all_reports(FOLDERS), repeat=3))[::3]:
                answers.append(self.check_reports(FOLDERS, name, reports, lists))
        self.assertGreater(answers.count(True), 1000)
        self.assertGreater(answers.count(False), 1000)

    def test_reports_of_four_and_five_folders(self):
        numbers = Numbers(73)
        for folders in (FIVE[:4], FIVE):
            answers = []
            lists = {name: lists_of_folder(folders, name) for name in folders}
            for count in range(1000):
                name = folders[numbers.below(len(folders))]
                reports = some_reports(numbers, folders, 1 + count % 7)
                answers.append(self.check_reports(folders, name, reports, lists[name]))
            self.assertGreater(answers.count(True), 100)
            self.assertGreater(answers.count(False), 100)

    def test_reports_that_a_list_tells(self):
        numbers = Numbers(79)
        lists = {name: lists_of_folder(FIVE, name) for name in FIVE}
        for count in range(300):
            name = FIVE[numbers.below(5)]
            names = lists[name][numbers.below(len(lists[name]))]
            groups = [having for having, _ in some_reports(numbers, FIVE, 1 + count % 12)]
            reports = tuple((group, next((folder for folder in names if folder in group), None)) for group in groups)
            self.assertIs(self.check_reports(FIVE, name, reports, lists[name]), True)

    def test_reports_that_winner_tells_of_scripts(self):
        numbers = Numbers(83)
        for count in range(300):
            folders = TWENTY[:2 + count % 19]
            script = numbers.script(folders, numbers.below(60))
            name = folders[numbers.below(len(folders))]
            reports = told_reports(numbers, folders, script, name, 1 + count % 40)
            self.assertIsNone(contradiction(folders, name, reports))
            names = explaining_list(folders, name, reports)
            self.assertEqual(set(names), needed_of(name, reports))
            self.assertTrue(explains(names, reports))
            self.assertTrue(explains(list_of(folders, script, name), reports))

    def test_reports_of_a_script_with_another_ending(self):
        numbers = Numbers(89)
        kinds = []
        for count in range(300):
            folders = TWENTY[:3 + count % 18]
            script = numbers.script(folders, 20 + numbers.below(60))
            name = folders[numbers.below(len(folders))]
            reports = told_reports(numbers, folders, script, name, 20)
            reports = reports + told_reports(numbers, folders, numbers.script(folders, 30), name, 20)
            if contradiction(folders, name, reports) is not None:
                kinds.append(self.check_contradiction(folders, name, reports)[0])
        self.assertEqual(set(kinds), {"lost", "ring"})


class Wrong(Case):
    def test_wrong_arguments(self):
        for function, rest in ((contradiction, ()), (explaining_list, ()), (is_contradiction, (("ring", (0, 1)),))):
            for value in wrong_folders() + [TWENTY_ONE]:
                self.check_raises(InvalidFolders, function, value, "a", (), *rest)
                self.check_raises(InvalidFolders, function, value, None, None, *rest)
            for value in wrong_of_folders():
                self.check_raises(InvalidName, function, FOLDERS, value, (), *rest)
                self.check_raises(InvalidName, function, FOLDERS, value, None, *rest)
            for value in wrong_reports():
                self.check_raises(InvalidReports, function, FOLDERS, "c", value, *rest)

    def test_reports_of_other_folders(self):
        reports = ((("a", "b"), "b"), (("c",), None))
        for function, rest in ((contradiction, ()), (explaining_list, ()), (is_contradiction, (None,))):
            self.check_raises(InvalidReports, function, ("a", "b"), "a", reports, *rest)
            self.check_raises(InvalidReports, function, ("c", "b"), "b", reports, *rest)

    def test_wrong_reports_are_wrong_before_a_contradiction(self):
        reports = ((("b", "c"), None), (("b", "d"), None))
        self.check_raises(InvalidReports, explaining_list, FOLDERS, "c", reports)
        self.check_raises(InvalidReports, contradiction, FOLDERS, "c", reports)

    def test_an_error_changes_nothing(self):
        reports = (NOT_LOST, (("c", "a"), "a"))
        before = repr(reports)
        first, second = contradiction(FOLDERS, "c", reports), contradiction(FOLDERS, "c", reports)
        self.assertEqual(first, second)
        self.check_raises(Contradiction, explaining_list, FOLDERS, "c", reports)
        self.assertEqual(repr(reports), before)
        self.assertEqual(explaining_list(FOLDERS, "c", reports[1:]), ["a", "c"])

    def test_the_reports_of_the_table(self):
        groups = (("b", "c"), ("a",), FOLDERS, ("b",))
        reports = tuple((having, winner(FOLDERS, TURN, "b", having)) for having in groups)
        self.assertEqual(explaining_list(FOLDERS, "b", reports), ["a", "c", "b"])


if __name__ == "__main__":
    unittest.main()
