"""Lines that change and question folders and a script of them."""

from copyover.checks import are_different, are_folders, is_one_of
from copyover.contents import winner
from copyover.copies import MOST_COPIES, heads_of, list_of
from copyover.errors import InvalidCommand, NothingToUndo, TooMany
from copyover.plans import fewest_for_heads
from copyover.repeats import lists_after, settling
from copyover.texts import copy_from, format_script
from copyover.trimming import idle_copies

MOST_DIGITS = 40
OK = "ok"


def demand(fits):
    """Raise InvalidCommand if a line does not fit."""
    if not fits:
        raise InvalidCommand("not a line that the console takes")


def words_of(line):
    """Return the words of a line."""
    demand(isinstance(line, str))
    words = line.split(" ")
    demand("" not in words)
    return words


def is_number(word):
    """Return whether a word is an integer of at most 40 digits, without leading zeros."""
    # isdigit() would let digits of other alphabets pass.
    if len(word) > MOST_DIGITS or not all(["0" <= sign <= "9" for sign in word]):
        return False
    return word == "0" or word[0] != "0"


def copies_from(words, folders):
    """Return the copies that the words stand for, if all of them are copies of the folders."""
    copies = [copy_from(word) for word in words]
    demand(all([copy is not None and are_different(copy[1:], folders) for copy in copies]))
    return tuple(copies)


def tell_script(folders, script, words):
    """Return the text of the script."""
    demand(len(words) == 0)
    return format_script(script)


def tell_list(folders, script, words):
    """Return the list of a folder."""
    demand(len(words) == 1 and is_one_of(words[0], folders))
    return " ".join(list_of(folders, script, words[0]))


def tell_winner(folders, script, words):
    """Return whose file the first folder has, for a path that the folders behind it had."""
    demand(len(words) > 0 and is_one_of(words[0], folders) and are_different(words[1:], folders))
    owner = winner(folders, script, words[0], tuple(words[1:]))
    return "-" if owner is None else owner


def tell_times(folders, script, words):
    """Return the list of a folder behind so many repetitions."""
    demand(len(words) == 2 and is_number(words[0]) and is_one_of(words[1], folders))
    lists = lists_after(folders, script, int(words[0]))
    return " ".join(lists[words[1]])


def tell_settling(folders, script, words):
    """Return from which number of repetitions on the lists come again, and with which period."""
    demand(len(words) == 0)
    first, period = settling(folders, script)
    return f"{first} {period}"


def tell_heads(folders, script, words):
    """Return each folder with its head."""
    demand(len(words) == 0)
    heads = heads_of(folders, script)
    return " ".join([f"{name}:{heads[name]}" for name in heads])


def tell_idle(folders, script, words):
    """Return the numbers of the idle copies."""
    demand(len(words) == 0)
    return " ".join([str(number) for number in idle_copies(folders, script)])


def tell_needs(folders, script, words):
    """Return the least number of copies that lead to the heads."""
    demand(len(words) == 0)
    return str(fewest_for_heads(heads_of(folders, script)))


QUESTIONS = {
    "script": tell_script,
    "list": tell_list,
    "who": tell_winner,
    "times": tell_times,
    "settling": tell_settling,
    "heads": tell_heads,
    "idle": tell_idle,
    "needs": tell_needs,
}


class Console:
    """Folders and a script of them, which lines change and question."""

    def __init__(self):
        self._folders = ()
        self._script = ()
        # How many copies the script had before each line that added some and is not undone.
        self._lengths = []

    def _begin(self, words):
        """Take new folders, with an empty script."""
        folders = tuple(words)
        demand(are_folders(folders))
        self._folders = folders
        self._script = ()
        self._lengths = []
        return OK

    def _add(self, words):
        """Add copies to the script."""
        copies = copies_from(words, self._folders)
        demand(len(copies) > 0)
        if len(self._script) + len(copies) > MOST_COPIES:
            raise TooMany("a script has at most 200 copies")
        self._lengths.append(len(self._script))
        self._script = self._script + copies
        return OK

    def _undo(self, words):
        """Take away the copies that were added last."""
        demand(len(words) == 0)
        if len(self._lengths) == 0:
            raise NothingToUndo("all lines that added copies are undone")
        length = self._lengths.pop()
        self._script = self._script[:length]
        return OK

    def _tell(self, word, words):
        """Return the answer to a question."""
        demand(word in QUESTIONS)
        question = QUESTIONS[word]
        answer = question(self._folders, self._script, words)
        return answer if answer != "" else "."

    def execute(self, line):
        """Take a line, and return its answer."""
        words = words_of(line)
        word = words[0]
        if word == "folders":
            return self._begin(words[1:])
        demand(len(self._folders) > 0)
        if word == "do":
            return self._add(words[1:])
        if word == "undo":
            return self._undo(words[1:])
        return self._tell(word, words[1:])
