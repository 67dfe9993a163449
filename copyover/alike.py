"""Whether scripts do the same, and the contents that tell them apart."""

from copyover.copies import is_copy, lists_of
from copyover.errors import InvalidCopy

PATH = "x"


def do_same(folders, copies, other):
    """Return whether two scripts do the same with all contents."""
    return lists_of(folders, copies) == lists_of(folders, other)


def telling_owners(names, other_names):
    """Return the one or two folders whose files tell two different lists apart."""
    lone = sorted(set(names) ^ set(other_names))
    if lone:
        return lone[:1]
    # Where the lists part, each folder is ahead of the other one in one of them.
    pairs = [[one, two] for one, two in zip(names, other_names) if one != two]
    return pairs[0]


def telling_contents(folders, copies, other):
    """Return contents that tell two scripts apart, or None if they do the same."""
    lists = lists_of(folders, copies)
    other_lists = lists_of(folders, other)
    for name in lists:
        if lists[name] != other_lists[name]:
            owners = telling_owners(lists[name], other_lists[name])
            return {folder: {PATH: folder} if folder in owners else {} for folder in lists}
    return None


def commute(copy, other_copy):
    """Return whether two copies, made in both orders, do the same."""
    for value in (copy, other_copy):
        if not is_copy(value):
            raise InvalidCopy("a copy is a tuple of a word and two different names")
    folders = tuple(sorted(set(copy[1:] + other_copy[1:])))
    return do_same(folders, (copy, other_copy), (other_copy, copy))
