"""Checks of names and folders, for all modules."""

from copyover.errors import InvalidFolders, InvalidName

LONGEST_NAME = 8
MOST_FOLDERS = 20


def is_name(value):
    """Return whether a value is a name."""
    if not isinstance(value, str) or not 1 <= len(value) <= LONGEST_NAME:
        return False
    # islower() would let letters beyond a to z pass, and signs beside a letter.
    return all(["a" <= sign <= "z" for sign in value])


def are_folders(value):
    """Return whether a value is folders."""
    if not isinstance(value, tuple) or not 1 <= len(value) <= MOST_FOLDERS:
        return False
    return all([is_name(name) for name in value]) and len(set(value)) == len(value)


def is_one_of(value, folders):
    """Return whether a value is one of the folders."""
    # An object that is no string may say of itself that it equals a folder.
    return isinstance(value, str) and value in folders


def are_some_of(value, folders):
    """Return whether a value is a tuple of none or more different ones of the folders."""
    if not isinstance(value, tuple) or not all([is_one_of(name, folders) for name in value]):
        return False
    return len(set(value)) == len(value)


def check_folders(folders):
    """Raise InvalidFolders if a value is not folders."""
    if not are_folders(folders):
        raise InvalidFolders("folders are a tuple of 1 to 20 different names")


def check_name(name, folders):
    """Raise InvalidName if a value is not one of the folders."""
    if not is_one_of(name, folders):
        raise InvalidName("the name is not one of the folders")
