"""Reports about a folder, the lists that explain them, and their contradictions."""

from copyover.checks import are_some_of, check_folders, check_name, is_one_of, is_whole
from copyover.errors import Contradiction, InvalidReports

MOST_REPORTS = 40


def is_report(value, folders):
    """Return whether a value is a report with some of the folders."""
    if not isinstance(value, tuple) or len(value) != 2:
        return False
    having, seen = value
    if not are_some_of(having, folders) or len(having) == 0:
        return False
    return seen is None or is_one_of(seen, having)


def are_reports(value, folders):
    """Return whether a value is reports with some of the folders."""
    if not isinstance(value, tuple) or len(value) > MOST_REPORTS:
        return False
    return all([is_report(report, folders) for report in value])


def check_reports(folders, name, reports):
    """Raise InvalidFolders, InvalidName or InvalidReports if a value is not what it has to be."""
    check_folders(folders)
    check_name(name, folders)
    if not are_reports(reports, folders):
        raise InvalidReports("reports are a tuple of at most 40 reports with some of the folders")


def needed_folders(name, reports):
    """Return the folder itself and all that are seen, in ascending order."""
    return sorted(set([name] + [seen for having, seen in reports if seen is not None]))


def reports_ahead(reports, folder, names):
    """Return the numbers of the reports that put another one of the names ahead of a folder."""
    return [number for number, (having, seen) in enumerate(reports)
            if seen in names and seen != folder and folder in having]


def least_order(reports, needed):
    """Return the least order of the needed folders that the reports allow, up to where all others wait for others."""
    order = []
    left = list(needed)
    while len(left) > 0:
        free = [folder for folder in left if len(reports_ahead(reports, folder, left)) == 0]
        if len(free) == 0:
            return order
        order.append(free[0])
        left.remove(free[0])
    return order


def lost_folder(reports, needed):
    """Return a contradiction of a report that sees None and a needed folder, or None if there is none."""
    for number, (having, seen) in enumerate(reports):
        lost = [folder for folder in having if folder in needed]
        if seen is None and len(lost) > 0:
            return ("lost", number, lost[0])
    return None


def ring_among(reports, waiting):
    """Return a ring of reports, where each one of the waiting folders has another one ahead of it."""
    before = {folder: reports_ahead(reports, folder, waiting)[0] for folder in waiting}
    start = waiting[0]
    # Each folder goes to one that is ahead of it, so that so many steps surely lead into a ring.
    for _ in waiting:
        start = reports[before[start]][1]
    numbers = [before[start]]
    while reports[numbers[0]][1] != start:
        numbers.insert(0, before[reports[numbers[0]][1]])
    return ("ring", tuple(numbers))


def contradiction(folders, name, reports):
    """Return a contradiction of the reports, or None if there is none."""
    check_reports(folders, name, reports)
    needed = needed_folders(name, reports)
    lost = lost_folder(reports, needed)
    if lost is not None:
        return lost
    order = least_order(reports, needed)
    waiting = [folder for folder in needed if folder not in order]
    return ring_among(reports, waiting) if len(waiting) > 0 else None


def is_lost(name, reports, number, other):
    """Return whether a report sees None although it has a needed folder."""
    if not is_whole(number, 0, len(reports) - 1) or not is_one_of(other, needed_folders(name, reports)):
        return False
    having, seen = reports[number]
    return seen is None and other in having


def is_ring(reports, numbers):
    """Return whether a value is a tuple of numbers of reports that put the folders that they see into a ring."""
    if not isinstance(numbers, tuple) or len(numbers) < 2:
        return False
    if not all([is_whole(number, 0, len(reports) - 1) for number in numbers]):
        return False
    seen = [reports[number][1] for number in numbers]
    if None in seen or len(set(seen)) != len(seen):
        return False
    following = seen[1:] + seen[:1]
    return all([folder in reports[number][0] for number, folder in zip(numbers, following)])


def is_contradiction(folders, name, reports, value):
    """Return whether a value is a contradiction of the reports."""
    check_reports(folders, name, reports)
    # An object that is no string may say of itself that it equals a word.
    if not isinstance(value, tuple) or len(value) == 0 or not isinstance(value[0], str):
        return False
    if value[0] == "lost" and len(value) == 3:
        return is_lost(name, reports, value[1], value[2])
    return value[0] == "ring" and len(value) == 2 and is_ring(reports, value[1])


def explaining_list(folders, name, reports):
    """Return the least list of exactly the needed folders that explains the reports."""
    found = contradiction(folders, name, reports)
    if found is not None:
        raise Contradiction(found)
    return least_order(reports, needed_folders(name, reports))
