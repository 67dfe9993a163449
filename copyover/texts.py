"""The texts of scripts and of lists."""

from copyover.checks import MOST_FOLDERS, check_lists, is_name
from copyover.copies import MOST_COPIES, is_copy, is_script
from copyover.errors import InvalidScript, InvalidWords

SIGNS = {"over": ">", "skip": "+"}


def word_of(copy):
    """Return the word of a copy."""
    word, source, target = copy
    return source + SIGNS[word] + target


def copy_from(text):
    """Return the copy whose word a text is, or None if it is that of no copy."""
    for word, sign in SIGNS.items():
        source, _, target = text.partition(sign)
        # Without the sign the target is empty, which is no name.
        if is_copy((word, source, target)):
            return (word, source, target)
    return None


def format_script(copies):
    """Return the text of a script."""
    if not is_script(copies):
        raise InvalidScript("a script is a tuple of at most 200 copies")
    return " ".join([word_of(copy) for copy in copies])


def parse_script(text):
    """Return the script with a text."""
    if not isinstance(text, str):
        raise InvalidWords(None)
    if text == "":
        return ()
    copies = []
    for index, word in enumerate(text.split(" ")):
        copy = copy_from(word)
        if copy is None or index >= MOST_COPIES:
            raise InvalidWords(index)
        copies.append(copy)
    return tuple(copies)


def format_lists(lists):
    """Return the text of lists."""
    check_lists(lists)
    return "\n".join([f"{name}: " + " ".join(lists[name]) for name in sorted(lists)])


def list_from(folder, rest):
    """Return the list that stands behind a folder and its colon, or None if it is no list of the folder."""
    parts = rest.split(" ")
    names = parts[1:]
    # Each folder has a space before it, so that nothing stands before the first space.
    if parts[0] != "" or not all([is_name(name) for name in names]):
        return None
    return names if folder in names and len(set(names)) == len(names) else None


def parse_lists(text):
    """Return the lists with a text."""
    if not isinstance(text, str):
        raise InvalidWords(None)
    lists = {}
    last = ""
    for index, line in enumerate(text.split("\n")):
        folder, _, rest = line.partition(":")
        names = list_from(folder, rest)
        if names is None or folder <= last or index >= MOST_FOLDERS:
            raise InvalidWords(index)
        lists[folder] = names
        last = folder
    for index, names in enumerate(lists.values()):
        if not all([name in lists for name in names]):
            raise InvalidWords(index)
    return lists
