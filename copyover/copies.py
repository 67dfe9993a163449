"""Copies, scripts, and the lists that they lead to."""

from copyover.checks import check_folders, check_name, is_name
from copyover.errors import InvalidScript

WORDS = ("over", "skip")
MOST_COPIES = 200


def is_copy(value):
    """Return whether a value is a copy."""
    if not isinstance(value, tuple) or len(value) != 3:
        return False
    word, source, target = value
    if not isinstance(word, str) or word not in WORDS:
        return False
    return is_name(source) and is_name(target) and source != target


def is_script(value):
    """Return whether a value is a script."""
    if not isinstance(value, tuple) or len(value) > MOST_COPIES:
        return False
    return all([is_copy(item) for item in value])


def check_script(copies, folders):
    """Raise InvalidScript if a value is not a script of the folders."""
    if not is_script(copies):
        raise InvalidScript("a script is a tuple of at most 200 copies")
    if not all([name in folders for copy in copies for name in copy[1:]]):
        raise InvalidScript("the script copies a folder that is not among the folders")


def joined_behind(ahead, behind):
    """Return a new list of one list and, behind it, what only the other one has."""
    return ahead + [name for name in behind if name not in ahead]


def first_lists(folders):
    """Return the lists that the folders have at first."""
    return {name: [name] for name in sorted(folders)}


def lists_behind(lists, copies):
    """Return the lists behind further copies; where no copy changes one, it is the same list as before."""
    now = dict(lists)
    for word, source, target in copies:
        if word == "over":
            now[target] = joined_behind(now[source], now[target])
        else:
            now[target] = joined_behind(now[target], now[source])
    return now


def lists_of(folders, copies):
    """Return the lists of all folders behind a script."""
    check_folders(folders)
    check_script(copies, folders)
    return lists_behind(first_lists(folders), copies)


def list_of(folders, copies, name):
    """Return the list of one folder behind a script."""
    lists = lists_of(folders, copies)
    check_name(name, folders)
    return lists[name]


def heads_of(folders, copies):
    """Return the head of each folder behind a script."""
    lists = lists_of(folders, copies)
    return {name: lists[name][0] for name in lists}
