"""The files of the folders, and whose file is where behind a script."""

from copyover.checks import are_some_of, has_names
from copyover.copies import check_script, list_of
from copyover.errors import InvalidContents, InvalidHaving

LONGEST_PATH = 20
PATH_SIGNS = "abcdefghijklmnopqrstuvwxyz0123456789./"
MOST_FILES = 40


def is_path(value):
    """Return whether a value is the path of a file."""
    if not isinstance(value, str) or not 1 <= len(value) <= LONGEST_PATH:
        return False
    return all([sign in PATH_SIGNS for sign in value])


def are_files(value):
    """Return whether a value is the files of one folder of contents."""
    if not isinstance(value, dict) or len(value) > MOST_FILES:
        return False
    return all([is_path(path) and isinstance(text, str) for path, text in value.items()])


def are_contents(value):
    """Return whether a value is contents."""
    return has_names(value) and all([are_files(files) for files in value.values()])


def check_contents(contents):
    """Raise InvalidContents if a value is not contents."""
    if not are_contents(contents):
        raise InvalidContents("contents are a dict from 1 to 20 names to at most 40 files each")


def sorted_files(files):
    """Return a new dict of the files in which their paths ascend."""
    return {path: files[path] for path in sorted(files)}


def run(contents, copies):
    """Return the contents behind a script."""
    check_contents(contents)
    check_script(copies, tuple(contents))
    now = {name: contents[name] for name in sorted(contents)}
    for word, source, target in copies:
        # A new dict each time, since the first ones are the caller's own.
        if word == "over":
            now[target] = {**now[target], **now[source]}
        else:
            now[target] = {**now[source], **now[target]}
    return {name: sorted_files(now[name]) for name in now}


def winner(folders, copies, name, having):
    """Return whose file a folder has behind a script, or None if it has none."""
    names = list_of(folders, copies, name)
    if not are_some_of(having, folders):
        raise InvalidHaving("having is a tuple of none or more different folders")
    owners = [owner for owner in names if owner in having]
    return owners[0] if owners else None
