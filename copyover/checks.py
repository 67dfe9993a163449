"""Checks of names, folders, lists and integers, for all modules."""

from copyover.errors import InvalidFolders, InvalidLists, InvalidName

LONGEST_NAME = 8
MOST_FOLDERS = 20


def is_name(value):
    """Return whether a value is a name."""
    if not isinstance(value, str) or not 1 <= len(value) <= LONGEST_NAME:
        return False
    # islower() would let letters beyond a to z pass, and signs beside a letter.
    return all(["a" <= sign <= "z" for sign in value])


def are_folders(value):
    """Return whether a value is folders."""
    if not isinstance(value, tuple) or not 1 <= len(value) <= MOST_FOLDERS:
        return False
    return all([is_name(name) for name in value]) and len(set(value)) == len(value)


def is_one_of(value, folders):
    """Return whether a value is one of the folders."""
    # An object that is no string may say of itself that it equals a folder.
    return isinstance(value, str) and value in folders


def are_different(names, folders):
    """Return whether the members of a list or tuple are different ones of the folders."""
    return all([is_one_of(name, folders) for name in names]) and len(set(names)) == len(names)


def are_some_of(value, folders):
    """Return whether a value is a tuple of none or more different ones of the folders."""
    return isinstance(value, tuple) and are_different(value, folders)


def is_list_of(value, name, folders):
    """Return whether a value is a list of different folders with the one of this name among them."""
    return isinstance(value, list) and are_different(value, folders) and name in value


def has_names(value):
    """Return whether a value is a dict that has 1 to 20 names as its keys."""
    if not isinstance(value, dict) or not 1 <= len(value) <= MOST_FOLDERS:
        return False
    return all([is_name(name) for name in value])


def are_lists(value):
    """Return whether a value is lists."""
    return has_names(value) and all([is_list_of(names, name, value) for name, names in value.items()])


def is_whole(value, least, most):
    """Return whether a value is an integer from least to most."""
    return isinstance(value, int) and not isinstance(value, bool) and least <= value <= most


def check_folders(folders):
    """Raise InvalidFolders if a value is not folders."""
    if not are_folders(folders):
        raise InvalidFolders("folders are a tuple of 1 to 20 different names")


def check_name(name, folders):
    """Raise InvalidName if a value is not one of the folders."""
    if not is_one_of(name, folders):
        raise InvalidName("the name is not one of the folders")


def check_lists(lists):
    """Raise InvalidLists if a value is not lists."""
    if not are_lists(lists):
        raise InvalidLists("lists are a dict from 1 to 20 folders to lists of different ones with their own")
