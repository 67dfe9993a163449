"""Shortest scripts that give one list to several folders, or lead to given heads."""

from copyover.checks import are_folders, are_some_of, has_names, is_one_of
from copyover.errors import InvalidGroup, InvalidHeads, InvalidWanted, NotPossible


def check_shared(wanted, group):
    """Raise InvalidWanted or InvalidGroup if a value is not wanted names, or not a group of them."""
    if not are_folders(wanted):
        raise InvalidWanted("wanted is a tuple of 1 to 20 different names")
    if not are_some_of(group, wanted) or len(group) == 0:
        raise InvalidGroup("a group is a tuple of one or more different ones of the wanted names")


def fewest_shared(wanted, group):
    """Return the least number of copies that give the wanted list to each folder of the group."""
    check_shared(wanted, group)
    return len(wanted) - 1 + len(group) - 1


def plan_shared(wanted, group):
    """Return a shortest script that gives the wanted list to each folder of the group."""
    check_shared(wanted, group)
    first = group[0]
    place = wanted.index(first)
    # The first one of the group gets the list while all others still have only their own files.
    ahead = [("over", name, first) for name in wanted[:place][::-1]]
    behind = [("skip", name, first) for name in wanted[place + 1:]]
    shared = [("over", first, name) for name in group[1:]]
    return tuple(ahead + behind + shared)


def check_heads(heads):
    """Raise InvalidHeads if a value is not heads."""
    if not has_names(heads) or not all([is_one_of(head, heads) for head in heads.values()]):
        raise InvalidHeads("heads are a dict from 1 to 20 names to names that are keys of it")


def not_own_heads(heads):
    """Return the folders that are not their own heads."""
    return [name for name in sorted(heads) if heads[name] != name]


def heads_of_none(heads):
    """Return the folders that are the head of no folder."""
    return sorted(set(heads) - set(list(heads.values())))


def are_possible(heads):
    """Return whether the heads are those of some script."""
    check_heads(heads)
    return len(not_own_heads(heads)) == 0 or len(heads_of_none(heads)) > 0


def check_possible(heads):
    """Raise InvalidHeads if a value is not heads, NotPossible if they are those of no script."""
    if not are_possible(heads):
        raise NotPossible("no script leads to these heads")


def ring_from(heads, name):
    """Return the ring of a folder, which begins with it and goes on from head to head; [] if it is in no ring."""
    ring = [name]
    while heads[ring[-1]] not in ring:
        ring.append(heads[ring[-1]])
    return ring if heads[ring[-1]] == name else []


def bare_rings(heads):
    """Return the bare rings, each one once."""
    rings = [ring_from(heads, name) for name in not_own_heads(heads)]
    followed = list(heads.values())
    return [ring for ring in rings
            if len(ring) > 1 and ring[0] == min(ring) and all([followed.count(name) == 1 for name in ring])]


def hung_rings(heads):
    """Return the rings of two or more that are not bare, each one with a folder out of it that the first one heads."""
    found = {}
    for name in sorted(heads):
        ring = ring_from(heads, heads[name])
        if len(ring) > 1 and name not in ring:
            found.setdefault(min(ring), (ring, name))
    return list(found.values())


def steps_to_ring(heads, name):
    """Return how many steps from head to head lead from a folder to a ring, or to a folder that is its own head."""
    steps = 0
    while len(ring_from(heads, name)) == 0:
        name = heads[name]
        steps = steps + 1
    return steps


def turning_copies(ring, holder):
    """Return the copies that give each folder of a ring its head, if the holder has the files of the first one."""
    copies = [("over", head, name) for name, head in zip(ring, ring[1:])]
    return copies + [("over", holder, ring[-1])]


def outer_copies(heads):
    """Return the copies that give each folder out of the rings its head."""
    outer = [(-steps_to_ring(heads, name), name) for name in heads]
    # The farthest ones come first, so that no folder is changed before it is copied.
    return [("over", heads[name], name) for steps, name in sorted(outer) if steps < 0]


def fewest_for_heads(heads):
    """Return the least number of copies of a script that leads to the heads."""
    check_possible(heads)
    return len(not_own_heads(heads)) + len(bare_rings(heads))


def plan_for_heads(heads):
    """Return a shortest script that leads to the heads."""
    check_possible(heads)
    plan = []
    for ring in bare_rings(heads):
        # Nobody needs the files of this folder, so that it can hold others before it gets its own head.
        spare = heads_of_none(heads)[0]
        plan = plan + [("over", ring[0], spare)] + turning_copies(ring, spare)
    plan = plan + outer_copies(heads)
    for ring, holder in hung_rings(heads):
        plan = plan + turning_copies(ring, holder)
    return tuple(plan)
