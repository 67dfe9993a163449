"""The errors [20]."""

import unittest

from copyover import errors
from copyover.errors import Contradiction, CopyError, InvalidWords

NAMES = (
    "InvalidFolders", "InvalidCopy", "InvalidScript", "InvalidName", "InvalidContents", "InvalidHaving",
    "InvalidLists", "InvalidTimes", "InvalidWanted", "InvalidGroup", "InvalidHeads", "InvalidLength",
    "InvalidNumber", "InvalidReports", "InvalidPath", "InvalidText", "InvalidWords", "InvalidCommand",
    "NotAlike", "NotPossible", "NotList", "Contradiction", "SameFolder", "TooMany", "NothingToUndo",
)


class Errors(unittest.TestCase):
    def test_base(self):
        self.assertTrue(issubclass(CopyError, ValueError))
        self.assertEqual(CopyError.__module__, "copyover.errors")

    def test_each_is_a_direct_subclass_defined_there(self):
        for name in NAMES:
            with self.subTest(name):
                error = getattr(errors, name)
                self.assertIn(CopyError, error.__bases__)
                self.assertEqual((error.__name__, error.__module__), (name, "copyover.errors"))

    def test_there_are_no_other_direct_subclasses(self):
        self.assertEqual(sorted(error.__name__ for error in CopyError.__subclasses__()), sorted(NAMES))

    def test_no_error_is_one_of_another_kind(self):
        for name in NAMES:
            for other in NAMES:
                self.assertEqual(issubclass(getattr(errors, name), getattr(errors, other)), name == other)

    def test_others_take_a_message(self):
        for name in ("CopyError",) + NAMES:
            if name in ("Contradiction", "InvalidWords"):
                continue
            with self.subTest(name):
                error = getattr(errors, name)
                self.assertEqual(str(error("not so")), "not so")
                with self.assertRaises(ValueError) as caught:
                    raise error("a message")
                self.assertEqual(caught.exception.args, ("a message",))

    def test_contradiction_has_its_value(self):
        for value in (("lost", 0, "c"), ("ring", (0, 1)), ("ring", (2, 0, 1))):
            self.assertEqual(Contradiction(value).value, value)
            self.assertEqual(Contradiction(value=value).value, value)
        with self.assertRaises(CopyError) as caught:
            raise Contradiction(("lost", 1, "a"))
        self.assertEqual(caught.exception.value, ("lost", 1, "a"))

    def test_contradictions_are_independent(self):
        one, two = Contradiction(("lost", 0, "a")), Contradiction(("lost", 1, "b"))
        self.assertEqual([one.value, two.value], [("lost", 0, "a"), ("lost", 1, "b")])

    def test_words_have_their_index(self):
        for index in (0, 1, 7, 200, None):
            self.assertEqual(InvalidWords(index).index, index)
            self.assertEqual(InvalidWords(index=index).index, index)
        self.assertIsNone(InvalidWords().index)
        self.assertIsNot(InvalidWords(0).index, None)
        with self.assertRaises(CopyError) as caught:
            raise InvalidWords(3)
        self.assertEqual(caught.exception.index, 3)

    def test_attributes_belong_to_each_object(self):
        self.assertEqual(vars(InvalidWords())["index"], None)
        self.assertEqual(vars(Contradiction(("lost", 0, "c")))["value"], ("lost", 0, "c"))


if __name__ == "__main__":
    unittest.main()
