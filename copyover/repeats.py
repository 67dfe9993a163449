"""Lists behind scripts that are joined, and behind a script that is repeated."""

from math import lcm

from copyover.checks import check_lists, is_whole
from copyover.copies import first_lists, lists_of
from copyover.errors import InvalidTimes, NotAlike

MOST_TIMES = 10 ** 30


def lists_of_both(lists, other_lists):
    """Return the lists behind two scripts from those of each one, which have the same folders."""
    both = {}
    for name in sorted(other_lists):
        # The keys of a dict stay at the place where they came first.
        places = {folder: True for part in other_lists[name] for folder in lists[part]}
        both[name] = list(places)
    return both


def joined(lists, other_lists):
    """Return the lists behind two scripts, of which each one leads to the lists that are passed."""
    check_lists(lists)
    check_lists(other_lists)
    if sorted(lists) != sorted(other_lists):
        raise NotAlike("the lists have different folders")
    return lists_of_both(lists, other_lists)


def repeated(lists, times):
    """Return the lists behind so many repetitions of a script that leads to the lists."""
    behind = first_lists(lists)
    doubled = lists
    left = times
    # Each round doubles the repetitions, since there are too many to make them one by one.
    while left > 0:
        if left % 2 == 1:
            behind = lists_of_both(behind, doubled)
        doubled = lists_of_both(doubled, doubled)
        left = left // 2
    return behind


def lists_after(folders, copies, times):
    """Return the lists behind so many repetitions of a script."""
    lists = lists_of(folders, copies)
    if not is_whole(times, 0, MOST_TIMES):
        raise InvalidTimes("times is an integer from 0 to 10 ** 30")
    return repeated(lists, times)


def common_period(many):
    """Return a number that the period of each script of so many folders divides."""
    common = 1
    for number in range(1, many + 1):
        common = lcm(common, number)
    return common


def least_period(lists, settled, period):
    """Return the least period of the settled lists, which divides the period that is passed."""
    least = period
    for divisor in range(2, len(lists) + 1):
        while least % divisor == 0 and lists_of_both(settled, repeated(lists, least // divisor)) == settled:
            least = least // divisor
    return least


def settling(folders, copies):
    """Return from which number of repetitions on the lists come again, and with which period."""
    lists = lists_of(folders, copies)
    period = common_period(len(lists))
    first = 0
    now = first_lists(lists)
    later = repeated(lists, period)
    # Lists that come again after any number of repetitions also do so after the common period.
    while now != later:
        now = lists_of_both(lists, now)
        later = lists_of_both(lists, later)
        first = first + 1
    return first, least_period(lists, now, period)
