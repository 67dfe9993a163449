"""Texts of scripts and of lists [18]."""

import itertools
import unittest

from copyover.copies import is_script, lists_of
from copyover.errors import InvalidLists, InvalidScript, InvalidWords
from copyover.texts import format_lists, format_script, parse_lists, parse_script
from tests.helper import (FOLDERS, STRANGE_SIGNS, TURN, TWENTY, TWENTY_ONE, WRONG_NAMES, Case, Numbers, all_scripts,
                          inner, not_strings, wrong_lists, wrong_scripts)

LONG = ("abcdefgh", "hgfedcba")
LISTS = {"a": ["b", "a"], "b": ["a", "c", "b"], "c": ["a", "c"]}


def named_lists(names):
    """Return lists of some names, each one of which has all of them."""
    return {name: list(names) for name in sorted(names)}


def lines_of(names):
    """Return a line for each name, with itself as its list."""
    return [f"{name}: {name}" for name in names]


class TextCase(Case):
    def check_words(self, function, text, index):
        """Check that a text raises InvalidWords with an index."""
        self.check_raises(InvalidWords, function, text)
        with self.assertRaises(InvalidWords) as caught:
            function(text)
        self.assertEqual((type(caught.exception.index), caught.exception.index), (type(index), index), repr(text)[:200])


class FormatScript(TextCase):
    def test_document(self):
        self.assertEqual(format_script((("over", "a", "b"), ("skip", "b", "c"))), "a>b b+c")

    def test_scripts(self):
        rows = [((), ""), ((("over", "a", "b"),), "a>b"), ((("skip", "a", "b"),), "a+b"), (TURN, "a>c b>a c>b"),
                ((("skip", *LONG), ("over", *LONG[::-1])), "abcdefgh+hgfedcba hgfedcba>abcdefgh"),
                ((("over", "over", "skip"), ("skip", "skip", "over")), "over>skip skip+over")]
        for script, text in rows:
            self.assertEqual(format_script(script), text)

    def test_number_of_copies(self):
        self.assertEqual(format_script((("over", "a", "b"),) * 200), " ".join(["a>b"] * 200))
        self.check_raises(InvalidScript, format_script, (("over", "a", "b"),) * 201)

    def test_folders_of_all_kinds(self):
        script = tuple(("skip", name, "x" + name) for name in TWENTY_ONE)
        self.assertEqual(format_script(script).split(" "), [f"{name}+x{name}" for name in TWENTY_ONE])

    def test_values_that_are_no_script(self):
        for value in wrong_scripts():
            self.check_raises(InvalidScript, format_script, value)


class ParseScript(TextCase):
    def test_document(self):
        self.assertEqual(parse_script(""), ())

    def test_texts(self):
        rows = [("a>b", (("over", "a", "b"),)), ("a+b", (("skip", "a", "b"),)), ("a>c b>a c>b", TURN),
                ("a+b a+b", (("skip", "a", "b"),) * 2), ("abcdefgh>hgfedcba", (("over", *LONG),)),
                ("over+skip", (("skip", "over", "skip"),))]
        for text, script in rows:
            self.assertEqual(parse_script(text), script)
            self.assertIs(is_script(parse_script(text)), True)

    def test_number_of_words(self):
        for word, copy in (("a>b", ("over", "a", "b")), ("c+a", ("skip", "c", "a"))):
            self.assertEqual(parse_script(" ".join([word] * 200)), (copy,) * 200)
            self.check_words(parse_script, " ".join([word] * 201), 200)
            self.check_words(parse_script, " ".join([word] * 202), 200)
            self.check_words(parse_script, " ".join([word] * 500), 200)
        words = ["a>b"] * 201
        for at in (0, 7, 199, 200):
            self.check_words(parse_script, " ".join(words[:at] + ["a>a"] + words[at + 1:]), at)
        self.check_words(parse_script, " ".join(["a>b"] * 200) + " ", 200)

    def test_two_spaces_together_and_a_space_at_either_end(self):
        rows = [(" ", 0), ("  ", 0), (" a>b", 0), ("a>b ", 1), ("a>b  b>a", 1), ("a>b b>a  a>b", 2), ("a>b b>a ", 2),
                ("  a>b", 0), ("a>b  ", 1), (" a>b  b>a ", 0)]
        for text, index in rows:
            self.check_words(parse_script, text, index)

    def test_words_of_no_copy(self):
        wrong = ["a", "ab", ">", "+", "a>", ">b", "a+", "+b", "a>a", "b+b", "a>>b", "a++b", "a>+b", "a+>b", "a>b>c",
                 "a+b+c", "a>b+c", "a+b>c", "a-b", "a<b", "a:b", "a>b,", "a>b\n", "\na>b", "a\n>b", "a>\nb", "a>b\nb>a",
                 "a\tb", "A>b", "a>B", "a1>b", "a>b1", "abcdefghi>b", "a>abcdefghi", "over", "over>over", "(a>b)",
                 "a>b.", "a>b+", "+a>b", "abcdefgh>abcdefgh", "x" * 3000, "x" * 1500 + ">" + "y" * 1499]
        wrong = wrong + [f"{name}>z" for name in WRONG_NAMES if " " not in name]
        wrong = wrong + [f"z+{name}" for name in WRONG_NAMES if " " not in name]
        wrong = wrong + [f"a{sign}b" for sign in STRANGE_SIGNS if sign != " "]
        for word in wrong:
            self.check_words(parse_script, word, 0)
            self.check_words(parse_script, f"a>b {word} b>a", 1)
            self.check_words(parse_script, f"a>b b+a a>b {word}", 3)
            self.check_words(parse_script, f"{word} {word}", 0)

    def test_values_that_are_no_strings(self):
        for value in not_strings():
            self.check_words(parse_script, value, None)


class FormatLists(TextCase):
    def test_document(self):
        self.assertEqual(format_lists({"b": ["b"], "a": ["b", "a"]}).split("\n"), ["a: b a", "b: b"])

    def test_lists(self):
        rows = [({"a": ["a"]}, "a: a"), (LISTS, "a: b a\nb: a c b\nc: a c"),
                ({"hgfedcba": ["hgfedcba"]}, "hgfedcba: hgfedcba"),
                ({"b": ["b"], "ab": ["ab"], "aa": ["b", "aa"], "a": ["a"]}, "a: a\naa: b aa\nab: ab\nb: b")]
        for lists, text in rows:
            self.assertEqual(format_lists(lists), text)
            self.assertEqual(format_lists(dict(reversed(lists.items()))), text)

    def test_twenty_folders(self):
        lines = [f"{name}: {' '.join(TWENTY)}" for name in TWENTY]
        self.assertEqual(format_lists(named_lists(TWENTY)), "\n".join(lines))

    def test_values_that_are_no_lists(self):
        for value in wrong_lists():
            self.check_raises(InvalidLists, format_lists, value)


class ParseLists(TextCase):
    def test_texts(self):
        rows = [("a: a", {"a": ["a"]}), ("a: b a\nb: b", {"a": ["b", "a"], "b": ["b"]}),
                ("a: b a\nb: a c b\nc: a c", LISTS), ("abcdefgh: abcdefgh", {"abcdefgh": ["abcdefgh"]}),
                ("a: b aa a ab\naa: aa\nab: ab\nb: b",
                 {"a": ["b", "aa", "a", "ab"], "aa": ["aa"], "ab": ["ab"], "b": ["b"]})]
        for text, lists in rows:
            self.assertEqual(parse_lists(text), lists)
            self.check_ascending(parse_lists(text))

    def test_number_of_lines(self):
        self.assertEqual(parse_lists("\n".join(lines_of(TWENTY))), {name: [name] for name in TWENTY})
        self.check_words(parse_lists, "\n".join(lines_of(TWENTY_ONE)), 20)
        self.check_words(parse_lists, "\n".join(lines_of(TWENTY_ONE + ("v",))), 20)
        lines = [f"{name}: {' '.join(TWENTY_ONE)}" for name in TWENTY_ONE]
        self.check_words(parse_lists, "\n".join(lines), 20)
        self.check_words(parse_lists, "\n".join(lines[:20]), 0)
        lines = lines_of(TWENTY_ONE)
        for at in (0, 19, 20):
            self.check_words(parse_lists, "\n".join(lines[:at] + ["x"] + lines[at + 1:]), at)

    def test_empty_lines(self):
        for text, index in (("", 0), ("\n", 0), ("a: a\n", 1), ("\na: a", 0), ("a: a\n\nb: b", 1), ("a: a\nb: b\n", 2),
                            ("a: a\n\n", 1), ("\n".join(lines_of(TWENTY)) + "\n", 20)):
            self.check_words(parse_lists, text, index)

    def test_lines_of_another_form(self):
        wrong = ["m", "m:", "m: ", "m:m", "m :m", "m : m", " m: m", "m: m ", "m:  m", "m: m  b", "m: b  m", "m m",
                 ": m", ":", " ", "m:\tm", "m: m\tb", "m;m", "m; m", "m: m:", "m: m: m", "m:: m", "m: m, b", "m: b,m",
                 "M: M", "m: M", "m: m B", "m1: m1", "m: m 1", "mnopqrstu: mnopqrstu", "m: m mnopqrstu", "m: m\r",
                 "m: m\x0bb", "m: m\x1c", "m:m b", "m: m b:", "m>b", "x" * 3000, "m:" + " m" * 1400,
                 "m: m\u2028n: n", "m: m\x85"]
        names = [name for name in WRONG_NAMES if "\n" not in name and name != "a b"]
        wrong = wrong + [f"{name}: {name}" for name in names + ["a b"]]
        wrong = wrong + [f"m: m {name}" for name in names] + [f"m: {name} m" for name in names]
        for line in wrong:
            self.check_words(parse_lists, line, 0)
            self.check_words(parse_lists, f"b: b\n{line}\nn: n", 1)
            self.check_words(parse_lists, f"b: b\nc: b c\n{line}", 2)
            self.check_words(parse_lists, f"{line}\n{line}", 0)

    def test_a_folder_twice_or_not_its_own(self):
        for names in ("a a", "a b a", "b b a", "b a b", "b", "b c", "c b", "aa", "aa b", "b a a"):
            self.check_words(parse_lists, f"a: {names}\nb: b\nc: c", 0)
            self.check_words(parse_lists, f"Z: Z\na: {names}", 0)
        self.check_words(parse_lists, "a: a\nb: c b b\nc: c", 1)
        self.check_words(parse_lists, "a: a\nb: b\nc: b", 2)

    def test_folders_that_do_not_ascend(self):
        for names, index in (("ba", 1), ("aa", 1), ("acb", 2), ("abb", 2), ("abca", 3), ("cab", 1)):
            self.check_words(parse_lists, "\n".join(lines_of(names)), index)
        self.check_words(parse_lists, "\n".join(lines_of(("ab", "a"))), 1)
        self.check_words(parse_lists, "\n".join(lines_of(("a", "b", "ab"))), 2)
        self.assertEqual(list(parse_lists("\n".join(lines_of(("a", "ab", "b"))))), ["a", "ab", "b"])

    def test_a_folder_that_no_line_begins_with(self):
        for text, index in (("a: a b", 0), ("a: b a", 0), ("a: a\nb: b c", 1), ("a: a\nb: c b\nd: d", 1),
                            ("a: a\nb: b\nc: d c e", 2), ("a: x a\nb: y b", 0), ("a: a b\nb: b\nc: c a d", 2)):
            self.check_words(parse_lists, text, index)

    def test_the_first_wrong_line_comes_before_unknown_folders(self):
        for text, index in (("a: a x\nb: b b", 1), ("a: x a\nb: b\nc", 2), ("a: a x\nb: b\na: a", 2), ("a: a x\n", 1),
                            ("a: a x\nb", 1), ("a: a b\nb: b y\nc:", 2)):
            self.check_words(parse_lists, text, index)

    def test_lists_of_more_folders_than_there_are_lines(self):
        self.check_words(parse_lists, "a: a\nb: " + " ".join(TWENTY_ONE), 1)
        self.check_words(parse_lists, "a: " + " ".join(TWENTY_ONE) + "\nb: b b", 1)

    def test_values_that_are_no_strings(self):
        for value in not_strings():
            self.check_words(parse_lists, value, None)

    def test_lists_are_new_and_different_ones(self):
        text = format_lists(named_lists(FOLDERS))
        first, second = parse_lists(text), parse_lists(text)
        self.assertEqual(first, second)
        parts = inner(first) + inner(second)
        self.assertEqual(len({id(part) for part in parts}), 8)


class TextsReadAgain(TextCase):
    def test_scripts(self):
        numbers = Numbers(97)
        scripts = [script for script in all_scripts(FOLDERS, 2)]
        scripts = scripts + [numbers.script(TWENTY + LONG, length) for length in range(0, 201, 5)]
        for script in scripts:
            text = format_script(script)
            self.assertEqual(parse_script(text), script)
            self.assertEqual(format_script(parse_script(text)), text)
            self.assertEqual(len(text.split()), len(script))

    def test_all_short_texts_of_some_signs(self):
        words = ["".join(signs) for length in range(5) for signs in itertools.product("ab>+ ", repeat=length)]
        copies = {f"{one}{sign}{two}": (word, one, two) for word, sign in (("over", ">"), ("skip", "+"))
                  for one, two in itertools.permutations(("a", "b", "aa", "ab", "ba", "bb"), 2)}
        for text in words:
            parts = text.split(" ") if text else []
            wrong = [index for index, part in enumerate(parts) if part not in copies]
            if wrong:
                self.check_words(parse_script, text, wrong[0])
            else:
                self.assertEqual(parse_script(text), tuple(copies[part] for part in parts))

    def test_lists(self):
        numbers = Numbers(101)
        for count in range(200):
            folders = (TWENTY + LONG)[count % 7::1 + count % 3][:20]
            lists = lists_of(folders, numbers.script(folders, numbers.below(50)))
            text = format_lists(lists)
            self.assertEqual(parse_lists(text), lists)
            self.assertEqual(format_lists(parse_lists(text)), text)
            self.assertEqual(len(text.split("\n")), len(folders))

    def test_all_lists_of_two_folders(self):
        own = {"a": (["a"], ["a", "b"], ["b", "a"]), "b": (["b"], ["a", "b"], ["b", "a"])}
        for first, second in itertools.product(own["a"], own["b"]):
            lists = {"b": second, "a": first}
            self.assertEqual(format_lists(lists), f"a: {' '.join(first)}\nb: {' '.join(second)}")
            self.assertEqual(parse_lists(format_lists(lists)), lists)


if __name__ == "__main__":
    unittest.main()
