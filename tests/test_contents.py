"""Contents, running a script, and winners [4, 10]."""

import unittest

from copyover.contents import are_contents, run, winner
from copyover.errors import InvalidContents, InvalidFolders, InvalidHaving, InvalidName, InvalidScript
from tests.helper import (CONTENTS, FOLDERS, LONG_PATH, PATH_SIGNS, TURN, TWENTY, TWENTY_ONE, Case, foreign_scripts,
                          many_files, wrong_contents, wrong_folders, wrong_having, wrong_of_folders, wrong_paths,
                          wrong_scripts)


class AreContents(Case):
    def test_contents(self):
        for value in (CONTENTS, {"a": {}}, {"abcdefgh": {"x": ""}}, {"z": {"a": "1", "b": "1"}, "az": {}}):
            self.assertIs(are_contents(value), True)

    def test_number_of_folders(self):
        self.assertIs(are_contents({name: {} for name in TWENTY}), True)
        self.assertIs(are_contents({name: {} for name in TWENTY_ONE}), False)
        self.assertIs(are_contents({}), False)

    def test_number_of_files(self):
        for many, answer in ((0, True), (1, True), (39, True), (40, True), (41, False), (42, False)):
            self.assertIs(are_contents({"a": many_files(many)}), answer)
            self.assertIs(are_contents({"a": {}, "b": many_files(many), "c": {}}), answer)
        self.assertIs(are_contents({name: many_files(40) for name in TWENTY}), True)

    def test_paths(self):
        self.assertEqual(len(LONG_PATH), 20)
        for sign in PATH_SIGNS:
            self.assertIs(are_contents({"a": {sign: "1"}}), True)
            self.assertIs(are_contents({"a": {sign * 20: "1"}}), True)
            self.assertIs(are_contents({"a": {sign * 21: "1"}}), False)
        for path in (LONG_PATH, "/", ".", "..", "//", "/a/", "0", "a.b/c.9"):
            self.assertIs(are_contents({"a": {path: "1"}}), True)
        for path in wrong_paths():
            self.assertIs(are_contents({"a": {path: "1"}}), False, repr(path))

    def test_texts(self):
        for text in ("", "1", "\n", "a\nb\n", " ", "Text ~!", "x" * 3000, "x" * 5000, "None"):
            self.assertIs(are_contents({"a": {"x": text}}), True)

    def test_others(self):
        for value in wrong_contents():
            self.assertIs(are_contents(value), False, repr(value)[:300])


class Run(Case):
    def test_document(self):
        behind = {"a": {"x": "2", "y": "3"}, "b": {"x": "1", "y": "3"}, "c": {"x": "1"}}
        self.assertEqual(run(CONTENTS, TURN), behind)

    def test_over_replaces_and_skip_leaves(self):
        contents = {"a": {"x": "1", "y": "2"}, "b": {"x": "3", "z": "4"}}
        self.assertEqual(run(contents, (("over", "a", "b"),)),
                         {"a": {"x": "1", "y": "2"}, "b": {"x": "1", "y": "2", "z": "4"}})
        self.assertEqual(run(contents, (("skip", "a", "b"),)),
                         {"a": {"x": "1", "y": "2"}, "b": {"x": "3", "y": "2", "z": "4"}})

    def test_copies_are_made_in_their_order(self):
        contents = {"a": {"x": "1"}, "b": {"x": "2"}, "c": {"x": "3"}}
        self.assertEqual(run(contents, (("over", "a", "b"), ("over", "b", "c"))),
                         {"a": {"x": "1"}, "b": {"x": "1"}, "c": {"x": "1"}})
        self.assertEqual(run(contents, (("over", "b", "c"), ("over", "a", "b"))),
                         {"a": {"x": "1"}, "b": {"x": "1"}, "c": {"x": "2"}})

    def test_a_later_change_of_the_source_does_not_reach_the_target(self):
        contents = {"a": {"x": "1"}, "b": {}, "c": {"x": "3", "y": "3"}}
        self.assertEqual(run(contents, (("over", "a", "b"), ("over", "c", "a"))),
                         {"a": {"x": "3", "y": "3"}, "b": {"x": "1"}, "c": {"x": "3", "y": "3"}})

    def test_empty_texts_are_texts(self):
        contents = {"a": {"x": ""}, "b": {"x": "2"}}
        self.assertEqual(run(contents, (("over", "a", "b"),)), {"a": {"x": ""}, "b": {"x": ""}})
        self.assertEqual(run(contents, (("skip", "b", "a"),)), contents)

    def test_no_copies_and_all_folders(self):
        self.assertEqual(run(CONTENTS, ()), CONTENTS)
        self.assertEqual(run({"abcdefgh": {}}, ()), {"abcdefgh": {}})
        self.assertEqual(run({name: {} for name in TWENTY}, (("over", "a", "t"),)), {name: {} for name in TWENTY})

    def test_keys_ascend(self):
        contents = {"c": {"y": "1", "x": "2", ".": "3"}, "b": {"z": "4", "a0": "5", "a": "6"}, "ab": {"/": "7"}}
        for script in ((), (("over", "c", "b"),), (("skip", "c", "b"), ("over", "ab", "c"), ("skip", "b", "ab"))):
            behind = run(contents, script)
            self.check_ascending(behind)
            self.assertEqual(list(behind), ["ab", "b", "c"])

    def test_order_of_the_keys_does_not_matter(self):
        turned = {name: dict(reversed(CONTENTS[name].items())) for name in reversed(CONTENTS)}
        self.assertEqual(list(turned), ["c", "b", "a"])
        self.assertEqual(run(turned, TURN), run(CONTENTS, TURN))
        self.assertEqual(repr(run(turned, TURN)), repr(run(CONTENTS, TURN)))

    def test_more_than_forty_files(self):
        contents = {"a": many_files(40), "b": {f"g{index}": "g" for index in range(40)}, "c": {"x": "1"}}
        behind = run(contents, (("over", "a", "b"), ("skip", "b", "c"), ("over", "c", "a")))
        self.assertEqual([len(files) for files in behind.values()], [81, 80, 81])
        self.assertEqual(behind["c"], {**contents["a"], **contents["b"], "x": "1"})
        self.check_ascending(behind)
        self.assertIs(are_contents(behind), False)
        self.check_raises(InvalidContents, run, behind, ())

    def test_all_files_of_twenty_folders(self):
        contents = {name: {f"{name}{index}": name for index in range(40)} for name in TWENTY}
        behind = run(contents, tuple(("over", name, "t") for name in TWENTY[:19]))
        self.assertEqual(len(behind["t"]), 800)
        self.assertEqual({name: behind[name] for name in TWENTY[:19]}, {name: contents[name] for name in TWENTY[:19]})

    def test_folders_that_are_one_dict(self):
        files = {"x": "1"}
        self.assertEqual(run({"a": files, "b": files, "c": {"y": "2"}}, (("over", "c", "a"), ("skip", "b", "c"))),
                         {"a": {"x": "1", "y": "2"}, "b": {"x": "1"}, "c": {"x": "1", "y": "2"}})
        self.assertEqual(files, {"x": "1"})

    def test_two_hundred_copies(self):
        script = (("over", "a", "b"), ("over", "b", "c")) * 100
        self.assertEqual(run(CONTENTS, script), {"a": {"x": "1"}, "b": {"x": "1", "y": "3"}, "c": {"x": "1", "y": "3"}})
        self.check_raises(InvalidScript, run, CONTENTS, script + script[:1])

    def test_wrong_contents(self):
        for value in wrong_contents():
            self.check_raises(InvalidContents, run, value, ())
            self.check_raises(InvalidContents, run, value, None)

    def test_wrong_scripts(self):
        for value in wrong_scripts() + foreign_scripts():
            self.check_raises(InvalidScript, run, CONTENTS, value)
        self.check_raises(InvalidScript, run, {"a": {}, "b": {}}, TURN)


class Winner(Case):
    def test_document(self):
        self.assertEqual(winner(FOLDERS, TURN, "b", ("b", "c")), "c")
        self.assertIsNone(winner(FOLDERS, TURN, "c", ("b",)))

    def test_first_of_the_list_that_had_one(self):
        rows = [(("a", "b", "c"), "a"), (("c", "b", "a"), "a"), (("c", "b"), "c"), (("b", "c"), "c"), (("b",), "b"),
                (("a",), "a"), (("b", "a"), "a"), (("c", "a"), "a"), (("c",), "c"), ((), None)]
        for having, owner in rows:
            self.assertEqual(winner(FOLDERS, TURN, "b", having), owner)

    def test_a_path_that_no_folder_of_the_list_had(self):
        self.assertIsNone(winner(FOLDERS, (), "a", ("b", "c")))
        self.assertIsNone(winner(FOLDERS, TURN, "a", ("c",)))
        self.assertIsNone(winner(TWENTY, (), "a", TWENTY[1:]))

    def test_empty_having(self):
        for name in FOLDERS:
            self.assertIsNone(winner(FOLDERS, TURN, name, ()))
            self.assertIsNone(winner(FOLDERS, (), name, ()))

    def test_all_folders(self):
        self.assertEqual([winner(FOLDERS, TURN, name, FOLDERS) for name in FOLDERS], ["b", "a", "a"])
        chain = tuple(("skip", one, two) for one, two in zip(TWENTY, TWENTY[1:]))
        self.assertEqual([winner(TWENTY, chain, name, TWENTY) for name in TWENTY], list(TWENTY))
        self.assertEqual([winner(TWENTY, chain, name, ("a",)) for name in TWENTY], ["a"] * 20)

    def test_names_in_one_another(self):
        folders = ("a", "aa", "aaa")
        self.assertIsNone(winner(folders, (), "a", ("aa", "aaa")))
        self.assertEqual(winner(folders, (("over", "aa", "a"),), "a", ("a", "aaa")), "a")

    def test_wrong_arguments(self):
        for value in wrong_folders():
            self.check_raises(InvalidFolders, winner, value, TURN, "a", ("a",))
        for value in wrong_scripts() + foreign_scripts():
            self.check_raises(InvalidScript, winner, FOLDERS, value, "a", ("a",))
        for value in wrong_of_folders():
            self.check_raises(InvalidName, winner, FOLDERS, TURN, value, ("a",))
        for value in wrong_having():
            self.check_raises(InvalidHaving, winner, FOLDERS, TURN, "a", value)

    def test_the_first_error_is_raised(self):
        self.check_raises(InvalidFolders, winner, FOLDERS * 2, None, None, None)
        self.check_raises(InvalidScript, winner, FOLDERS, None, None, None)
        self.check_raises(InvalidScript, winner, FOLDERS, None, "a", ("d",))
        self.check_raises(InvalidName, winner, FOLDERS, TURN, "d", ("d",))
        self.check_raises(InvalidHaving, winner, FOLDERS, TURN, "a", ("d",))


if __name__ == "__main__":
    unittest.main()
