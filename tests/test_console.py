"""The console [19], and the conventions [2, 3] for it."""

import inspect
import itertools
import unittest

from copyover.console import Console
from copyover.contents import winner
from copyover.copies import heads_of, list_of
from copyover.errors import InvalidCommand, InvalidTimes, NothingToUndo, TooMany
from copyover.plans import fewest_for_heads
from copyover.repeats import lists_after, settling
from copyover.texts import format_script
from copyover.trimming import idle_copies
from tests.helper import (FOLDERS, STRANGE_SIGNS, TURN, TWENTY, TWENTY_ONE, WRONG_NAMES, Case, Numbers, not_strings)

QUESTIONS = ("script", "settling", "heads", "idle", "needs")
# One line of each kind for FOLDERS.
LINES = ("folders a b c", "do a>b", "undo", "list a", "who a b", "times 1 a") + QUESTIONS


def console_with(*lines):
    """Return a console behind some lines."""
    console = Console()
    for line in lines:
        console.execute(line)
    return console


def answer_of(items):
    """Return the answer of some items."""
    return " ".join(str(item) for item in items) or "."


def answers_of(folders, script):
    """Return lines with their answers, worked out by the functions."""
    heads = heads_of(folders, script)
    answers = {
        "script": format_script(script) or ".", "settling": answer_of(settling(folders, script)),
        "heads": answer_of(f"{name}:{heads[name]}" for name in sorted(heads)),
        "idle": answer_of(idle_copies(folders, script)), "needs": str(fewest_for_heads(heads)),
    }
    for name in folders:
        answers[f"list {name}"] = answer_of(list_of(folders, script, name))
        for times in (0, 1, 2, 7, 10 ** 30 - 1, 10 ** 30):
            answers[f"times {times} {name}"] = answer_of(lists_after(folders, script, times)[name])
        for many in (0, 1, 2, len(folders)):
            for having in itertools.islice(itertools.permutations(folders, min(many, len(folders))), 12):
                answers[" ".join(("who", name) + having)] = winner(folders, script, name, having) or "-"
    return answers


class ConsoleCase(Case):
    def check_line(self, console, line, answer):
        """Check the answer to a line."""
        told = console.execute(line)
        self.assertIs(type(told), str)
        self.assertEqual(told, answer, line)

    def check_answers(self, console, folders, script):
        """Check all answers of a console that holds folders and a script."""
        for line, answer in answers_of(folders, script).items():
            self.check_line(console, line, answer)

    def check_refused(self, error, console, line):
        """Check that a line raises an error of exactly one class and changes nothing."""
        questions = list(QUESTIONS) + ["list a", "who b a", "times 3 a"]
        before = [console.execute(question) for question in questions]
        self.check_raises(error, console.execute, line)
        self.assertEqual([console.execute(question) for question in questions], before)

    def check_invalid(self, *lines):
        """Check that lines are none that a console with FOLDERS takes."""
        console = console_with("folders a b c", "do a>c b>a", "do c>b")
        for line in lines:
            self.check_refused(InvalidCommand, console, line)
        self.assertEqual([console.execute("undo"), console.execute("script")], ["ok", "a>c b>a"])
        self.assertEqual([console.execute("undo"), console.execute("script")], ["ok", "."])
        self.check_refused(NothingToUndo, console, "undo")


class Interface(ConsoleCase):
    def test_the_method_is_defined_in_the_class_itself(self):
        self.assertEqual((Console.__module__, Console.__name__), ("copyover.console", "Console"))
        self.assertEqual(tuple(inspect.signature(Console).parameters), ())
        self.assertEqual(tuple(inspect.signature(vars(Console)["execute"]).parameters), ("self", "line"))

    def test_by_position_and_by_name(self):
        one, two = Console(), Console()
        for line in LINES:
            self.assertEqual(one.execute(line), two.execute(line=line))

    def test_document(self):
        console = Console()
        seen = [console.execute("folders a b c"), console.execute("do a>c b>a c>b"), console.execute("list b")]
        self.assertEqual(
            [seen, console.execute("who b b c"), console.execute("times 2 a"), console.execute("settling"),
             console.execute("heads")],
            [["ok", "ok", "a c b"], "c", "a c b", "2 2", "a:b b:a c:a"])

    def test_consoles_are_independent(self):
        one, two = console_with("folders a b c", "do a>b"), console_with("folders a b c", "do a+b")
        self.assertEqual([one.execute("script"), two.execute("script")], ["a>b", "a+b"])
        one.execute("undo")
        self.assertEqual([one.execute("script"), two.execute("script")], [".", "a+b"])
        self.check_raises(InvalidCommand, Console().execute, "script")


class FoldersLine(ConsoleCase):
    def test_no_folders_at_first(self):
        console = Console()
        others = ("undo", "do a>a", "list", "x", "", " ", "folders", "folders a a", "times 0 a", "who a")
        for line in LINES[1:] + others:
            self.check_raises(InvalidCommand, console.execute, line)
        self.check_line(console, "folders a b c", "ok")
        for line in LINES[3:]:
            console.execute(line)

    def test_a_refused_first_line_leaves_no_folders(self):
        console = Console()
        for line in ("folders", "folders a a", "folders A", "folders a  b", "folders a "):
            self.check_raises(InvalidCommand, console.execute, line)
            for question in LINES[1:]:
                self.check_raises(InvalidCommand, console.execute, question)

    def test_number_of_folders(self):
        for folders in (("z",), ("abcdefgh", "a"), TWENTY[:19], TWENTY, TWENTY[::-1]):
            console = console_with(f"folders {' '.join(folders)}")
            self.check_line(console, "heads", " ".join(f"{name}:{name}" for name in sorted(folders)))
            self.check_line(console, f"list {folders[-1]}", folders[-1])
        self.check_invalid("folders", "folders ", f"folders {' '.join(TWENTY_ONE)}",
                           f"folders {' '.join(TWENTY_ONE + ('v',))}")

    def test_wrong_names(self):
        self.check_invalid(*[f"folders {name}" for name in WRONG_NAMES if name != "a b"])
        self.check_invalid(*[f"folders d {name} e" for name in WRONG_NAMES if name != "a b"])
        self.check_invalid("folders a a", "folders a b a", "folders b c c", "folders aa a aa", "folders a, b",
                           "folders\n")

    def test_a_new_line_begins_again(self):
        console = console_with("folders a b c", "do a>c", "do b>a c>b")
        self.check_line(console, "folders c d b", "ok")
        self.check_answers(console, ("c", "d", "b"), ())
        self.check_raises(NothingToUndo, console.execute, "undo")
        for line in ("list a", "do a>b", "who a", "who b a", "times 1 a"):
            self.check_raises(InvalidCommand, console.execute, line)
        self.check_line(console, "do d>c", "ok")
        self.check_answers(console, ("c", "d", "b"), (("over", "d", "c"),))
        self.check_line(console, "folders c d b", "ok")
        self.check_line(console, "script", ".")
        self.check_raises(NothingToUndo, console.execute, "undo")

    def test_a_refused_line_changes_nothing(self):
        console = console_with("folders a b c", "do a>c b>a c>b")
        for line in ("folders", "folders d d", "folders x y Z", f"folders {' '.join(TWENTY_ONE)}", "folders  x"):
            self.check_refused(InvalidCommand, console, line)
        self.check_answers(console, FOLDERS, TURN)
        self.check_line(console, "undo", "ok")
        self.check_answers(console, FOLDERS, ())

    def test_folders_called_like_lines(self):
        console = console_with("folders folders do undo list who times heads script")
        self.check_line(console, "do do>undo list+who", "ok")
        self.check_line(console, "list undo", "do undo")
        self.check_line(console, "who who list", "list")
        self.check_line(console, "times 2 times", "times")
        self.check_line(console, "script", "do>undo list+who")
        self.check_line(console, "undo", "ok")
        self.check_line(console, "list undo", "undo")


class DoAndUndo(ConsoleCase):
    def test_copies_are_added(self):
        console = console_with("folders a b c")
        made = ()
        for line, copies in (("do a>c", TURN[:1]), ("do b>a c>b", TURN[1:]), ("do a+b", (("skip", "a", "b"),)),
                             ("do a+b a+b", (("skip", "a", "b"),) * 2)):
            self.check_line(console, line, "ok")
            made = made + copies
            self.check_answers(console, FOLDERS, made)

    def test_undo_reverts_the_last_line_that_is_not_undone(self):
        console = console_with("folders a b c", "do a>c b>a", "do c>b", "do a+b a+b a+c")
        for script in ("a>c b>a c>b", "a>c b>a", "."):
            self.check_line(console, "undo", "ok")
            self.check_line(console, "script", script)
        for _ in range(2):
            self.check_refused(NothingToUndo, console, "undo")
        console.execute("do a>b")
        console.execute("do b>c")
        console.execute("undo")
        console.execute("do c>a a>c")
        self.check_line(console, "script", "a>b c>a a>c")
        console.execute("undo")
        self.check_line(console, "script", "a>b")
        console.execute("undo")
        self.check_refused(NothingToUndo, console, "undo")

    def test_nothing_to_undo_at_first(self):
        self.check_refused(NothingToUndo, console_with("folders a b"), "undo")
        self.check_invalid("undo 1", "undo undo", "undo a", "undo a>b", "undo ", " undo", "undo\n", "Undo")

    def test_words_that_are_no_copies_of_the_folders(self):
        words = ["a", "a>", ">a", ">", "+", "a>a", "b+b", "a>d", "d>a", "d+e", "a>>b", "a>b>c", "a>b+c", "a-b", "A>b",
                 "a>B", "a>b,", "a>b\n", "a>b\nb>a", "a:b", "do", "over", "1", "abcdefghi>a", "", "a>bb", "aa>b"]
        words = words + [f"a{sign}b" for sign in STRANGE_SIGNS if sign != " "]
        self.check_invalid("do", "do ", *[f"do {word}" for word in words], *[f"do a>b {word} b>c" for word in words],
                           *[f"do a>b b+c {word}" for word in words])

    def test_two_hundred_copies(self):
        console = console_with("folders a b c", "do " + " ".join(["a>b"] * 200))
        script = (("over", "a", "b"),) * 200
        self.check_line(console, "script", format_script(script))
        self.check_line(console, "idle", " ".join(str(number) for number in range(200)))
        for line in ("do a>b", "do a+b b>c", "do " + " ".join(["b>a"] * 200)):
            self.check_refused(TooMany, console, line)
        self.check_refused(InvalidCommand, console, "do a>a")
        self.check_line(console, "undo", "ok")
        self.check_line(console, "script", ".")
        self.check_raises(NothingToUndo, console.execute, "undo")

    def test_more_than_two_hundred_copies(self):
        console = console_with("folders a b c")
        for many in (201, 202, 300, 400):
            self.check_refused(TooMany, console, "do " + " ".join(["a>b"] * many))
            self.check_refused(InvalidCommand, console, "do " + " ".join(["a>b"] * many + ["a>d"]))
            self.check_refused(InvalidCommand, console, "do " + " ".join(["a>b"] * 200 + ["a>"] + ["b>a"] * many))
        self.check_raises(NothingToUndo, console.execute, "undo")
        console = console_with("folders a b c", "do " + " ".join(["a>b", "b+c"] * 99), "do c>a")
        self.check_refused(TooMany, console, "do a>b b>c")
        self.check_line(console, "do a>b", "ok")
        self.check_refused(TooMany, console, "do a>b")
        console.execute("undo")
        console.execute("undo")
        self.check_refused(TooMany, console, "do a>b b>c c>a")
        self.check_line(console, "do a>b b>c", "ok")
        self.assertEqual(len(console.execute("script").split(" ")), 200)

    def test_a_refused_line_is_not_undone(self):
        console = console_with("folders a b c", "do a>b", "do b>c")
        self.check_refused(InvalidCommand, console, "do c>a c>d")
        self.check_refused(TooMany, console, "do " + " ".join(["a>b"] * 199))
        self.check_line(console, "undo", "ok")
        self.check_line(console, "script", "a>b")

    def test_a_hundred_lines_and_more(self):
        console = console_with("folders a b c")
        for number in range(110):
            console.execute(("do a>b", "do b+c", "do c>a")[number % 3])
        for number in range(110):
            self.check_line(console, "undo", "ok")
        self.check_refused(NothingToUndo, console, "undo")


class Questions(ConsoleCase):
    def test_no_copies(self):
        console = console_with("folders b a")
        rows = [("script", "."), ("idle", "."), ("needs", "0"), ("settling", "0 1"), ("heads", "a:a b:b"),
                ("list a", "a"), ("times 0 b", "b"), ("times 5 b", "b"), ("who a", "-"), ("who a b", "-"),
                ("who a a", "a"), ("who a b a", "a")]
        for line, answer in rows:
            self.check_line(console, line, answer)

    def test_answers_of_one_script(self):
        console = console_with("folders a b", "do a>b a+b b+a")
        rows = [("script", "a>b a+b b+a"), ("idle", "1"), ("needs", "1"), ("heads", "a:a b:a"), ("list a", "a b"),
                ("list b", "a b"), ("who b", "-"), ("who b b", "b"), ("who b b a", "a"), ("who b a b", "a"),
                ("settling", "1 1"), ("times 1 a", "a b")]
        for line, answer in rows:
            self.check_line(console, line, answer)
        console = console_with("folders a b", "do a+b a+b a>b")
        self.check_line(console, "idle", "0 1")

    def test_winners(self):
        console = console_with("folders a b c", "do a>c b>a c>b")
        rows = [("who b b c", "c"), ("who b c b", "c"), ("who c b", "-"), ("who c", "-"), ("who b", "-"),
                ("who b a b c", "a"), ("who b b", "b"), ("who a c", "-")]
        for line, answer in rows:
            self.check_line(console, line, answer)
        self.check_invalid("who", "who ", "who d", "who d a", "who a d", "who a b b", "who a b c b", "who a a a",
                           "who a b c a b", "who a A", "who b ", "who  b", "who a>b", "who a, b", "who ab", "who a b\n")

    def test_number_of_times(self):
        console = console_with("folders a b c", "do a>c b>a c>b")
        rows = [("0", "a"), ("1", "b a"), ("2", "a c b"), ("3", "b a c"), ("4", "a c b"), ("10", "a c b"),
                ("1" + "0" * 30, "a c b"), ("9" * 30, "b a c"), (str(10 ** 30 - 1), "b a c")]
        for number, answer in rows:
            self.check_line(console, f"times {number} a", answer)
        beyond = [str(10 ** 30 + 1), "2" + "0" * 30, "1" + "0" * 31, "9" * 31, "1" + "0" * 39, "9" * 40, "1" * 40]
        for number in beyond:
            self.check_refused(InvalidTimes, console, f"times {number} b")
            self.check_refused(InvalidCommand, console, f"times {number} d")
            self.check_refused(InvalidCommand, console, f"times 0{number} b")

    def test_words_that_are_no_numbers(self):
        wrong = ["00", "01", "007", "-0", "-1", "+1", "1.", "1.0", "1_0", "0x1", "1e3", "a", "", "1a", "a1", "1\n",
                 "\n1", "1" + "0" * 40, "9" * 41, "0" * 40, "0" * 41, "0" + "1" * 39, "1" * 41, "1" * 300, "one", "1,0",
                 "0b1", "\u0663", "1\u0663", "\u00b2", "\uff11", "/", ":", "1:", "/1", "None", "True", "(1)"]
        self.check_invalid(*[f"times {word} a" for word in wrong])
        self.check_invalid("times", "times 1", "times a", "times a 1", "times 1 d", "times 1 a b", "times 1 1 a",
                           "times 1  a", "times  1 a", "times 1 a ", "times 1 2", "times 1 A", "times 1\na")

    def test_lists(self):
        self.check_invalid("list", "list ", "list d", "list a b", "list A", "list a>b", "list a ", "list  a", " list a",
                           "list a\n", "list ab", "list 1", "lists a", "List a")

    def test_lines_of_one_word(self):
        for word in QUESTIONS:
            self.check_invalid(word + " ", " " + word, f" {word} ", word + "  a", word + "\n", "\n" + word, word + " a",
                               word + " 1", f"{word} {word}", f"{word} a>b", word + "s", word[:-1], word.upper(),
                               word.title())

    def test_other_lines(self):
        self.check_invalid("", " ", "  ", "\n", ".", "-", "ok", "a", "a>b", "list\na", "do\na>b", "1", "x" * 3000,
                           " " * 3000, "do  a>b", "do a>b  b>c", " do a>b", "do a>b ", "folders  a", "folders a  b",
                           " folders a", "folders a ", "Do a>b", "DO a>b", "do, a>b", "help", "quit", "over a b",
                           "None", "undo undo", "script script", "execute", "folder a", "tell", "_begin", "_undo",
                           "folders\ta", "do\ta>b", "script;", "who;", "needs ?")

    def test_values_that_are_no_strings(self):
        for console in (Console(), console_with("folders a b c", "do a>b")):
            for value in not_strings():
                self.check_raises(InvalidCommand, console.execute, value)
                self.check_raises(InvalidCommand, console.execute, line=value)
        self.check_invalid(*not_strings()[::3])

    def test_questions_change_nothing(self):
        console = console_with("folders c b a", "do a>c", "do b>a c>b")
        for _ in range(3):
            self.check_answers(console, ("c", "b", "a"), TURN)
        console.execute("undo")
        self.check_answers(console, ("c", "b", "a"), TURN[:1])

    def test_all_folders(self):
        console = console_with(f"folders {' '.join(TWENTY)}")
        script = Numbers(109).script(TWENTY, 180)
        console.execute(f"do {format_script(script)}")
        self.check_answers(console, TWENTY, script)


class AgainstFunctions(ConsoleCase):
    def test_lines_without_a_pattern(self):
        numbers = Numbers(113)
        for count in range(40):
            folders = ("c", "ab", "a", "d", "b")[:2 + count % 4]
            console, steps = console_with(f"folders {' '.join(folders)}"), [()]
            for _ in range(8):
                if numbers.below(4) == 0 and len(steps) > 1:
                    self.check_line(console, "undo", "ok")
                    steps.pop()
                elif numbers.below(9) == 0:
                    self.check_refused_of(console, folders, steps)
                else:
                    copies = numbers.script(folders, 1 + numbers.below(5))
                    self.check_line(console, f"do {format_script(copies)}", "ok")
                    steps.append(steps[-1] + copies)
                self.check_answers(console, folders, steps[-1])

    def check_refused_of(self, console, folders, steps):
        """Check lines that a console with some folders refuses."""
        name = folders[0]
        for line in ("do", f"do {name}>z", f"list {name} ", "folders A", f"who {name} z", f"times 00 {name}"):
            self.check_raises(InvalidCommand, console.execute, line)
        if len(steps) == 1:
            self.check_raises(NothingToUndo, console.execute, "undo")
        self.check_raises(TooMany, console.execute, f"do {' '.join([f'{name}>{folders[1]}'] * 201)}")
        self.check_raises(InvalidTimes, console.execute, f"times {10 ** 30 + 1} {name}")


if __name__ == "__main__":
    unittest.main()
