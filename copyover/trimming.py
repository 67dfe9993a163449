"""Copies that change nothing, and scripts without them."""

from copyover.copies import first_lists, is_script, lists_behind, lists_of


def idle_copies(folders, copies):
    """Return the numbers of the copies of which each one, left out alone, leaves all lists as they are."""
    lists = lists_of(folders, copies)
    idle = []
    before = first_lists(folders)
    for index, copy in enumerate(copies):
        if lists_behind(before, copies[index + 1:]) == lists:
            idle.append(index)
        before = lists_behind(before, (copy,))
    return idle


def trimmed_once(folders, copies):
    """Return the script without each copy that is idle behind those that stay."""
    lists = lists_of(folders, copies)
    kept = []
    before = first_lists(folders)
    for index, copy in enumerate(copies):
        if lists_behind(before, copies[index + 1:]) != lists:
            kept.append(copy)
            before = lists_behind(before, (copy,))
    return tuple(kept)


def trimmed(folders, copies):
    """Return a script of some of the copies that leads to the same lists and has no idle copies."""
    kept = trimmed_once(folders, copies)
    # A copy that was needed may be idle once a later one is left out.
    while len(idle_copies(folders, kept)) > 0:
        kept = trimmed_once(folders, kept)
    return kept


def are_some_in_order(part, copies):
    """Return whether the part consists of some of the copies, in their order."""
    found = 0
    for copy in copies:
        if found < len(part) and copy == part[found]:
            found = found + 1
    return found == len(part)


def is_trimmed(folders, copies, value):
    """Return whether a value is a script that trimmed may return."""
    lists = lists_of(folders, copies)
    if not is_script(value) or not are_some_in_order(value, copies):
        return False
    return lists_of(folders, value) == lists and len(idle_copies(folders, value)) == 0
