"""How many lists of a length a folder can have, and their numbers in ascending order."""

from math import perm

from copyover.checks import check_folders, check_name, is_list_of, is_whole
from copyover.errors import InvalidLength, InvalidNumber, NotList


def count_beginning(folders, name, start, length):
    """Return how many lists of the folder with this length begin with the folders of start."""
    free = len(folders) - len(start)
    places = length - len(start)
    if name in start:
        return perm(free, places)
    if places == 0:
        return 0
    return places * perm(free - 1, places - 1)


def count_lists(folders, name, length):
    """Return the number of lists of the folder with this length."""
    check_folders(folders)
    check_name(name, folders)
    if not is_whole(length, 1, len(folders)):
        raise InvalidLength("a length is an integer from 1 to the number of the folders")
    return count_beginning(folders, name, [], length)


def nth_list(folders, name, length, number):
    """Return the list with a number among those of the folder with this length."""
    many = count_lists(folders, name, length)
    if not is_whole(number, 0, many - 1):
        raise InvalidNumber("a number is an integer from 0 to the number of lists - 1")
    found = []
    left = number
    while len(found) < length:
        free = [folder for folder in sorted(folders) if folder not in found]
        place = 0
        # All lists that go on with a lesser folder have lesser numbers.
        while left >= count_beginning(folders, name, found + [free[place]], length):
            left = left - count_beginning(folders, name, found + [free[place]], length)
            place = place + 1
        found.append(free[place])
    return found


def list_number(folders, name, value):
    """Return the number of a list of the folder among those of its length."""
    check_folders(folders)
    check_name(name, folders)
    if not is_list_of(value, name, folders):
        raise NotList("a list of a folder has different folders, with the folder itself among them")
    number = 0
    for place, chosen in enumerate(value):
        start = value[:place]
        lesser = [folder for folder in folders if folder < chosen and folder not in start]
        number = number + sum([count_beginning(folders, name, start + [folder], len(value)) for folder in lesser])
    return number
