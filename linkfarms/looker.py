"""Looking at plans [14]: whether they are right, and whether they are straight."""

from linkfarms.differences import least_difference
from linkfarms.drafts import Draft, is_deed, targets_in
from linkfarms.glances import Watch
from linkfarms.grounds import check_links, stands
from linkfarms.layouts import joints_from
from linkfarms.shapes import Shape


def fault(packages, old, new, deeds):
    """None if any value is a right plan, otherwise the tuple (index, path) of what is wrong first.

    The index is -1 for what is no list, and the number of deeds if the end is not the new layout. The path is None
    if a deed cannot be done, or if a joint is not seen in the end.
    """
    check_links(packages, old)
    check_links(packages, new)
    if not isinstance(deeds, list):
        return (-1, None)
    watch = Watch(packages, old, new)
    draft = Draft(old)
    for at in range(len(deeds)):
        if not draft.can_do(deeds[at]) or not all_stand(packages, deeds[at]):
            return (at, None)
        draft.do(deeds[at])
        # Other deeds change nothing that is seen.
        if deeds[at][0] == "turn":
            path = watch.wrong_path(draft)
            if path is not None:
                return (at, path)
    path = least_difference(Shape(packages, new), Shape(packages, draft))
    if path is None and len(joints_from(draft)) == len(draft.rows):
        return None
    return (len(deeds), path)


def all_stand(packages, deed):
    """Whether all targets in a deed that are no joints are files and plain folders of the packages."""
    return all([isinstance(target, int) or stands(packages, target) for target in targets_in(deed)])


def is_straight(deeds):
    """Whether any value is a list of deeds that has the form of a straight plan."""
    if not isinstance(deeds, list) or not all([is_deed(deed) for deed in deeds]):
        return False
    turned = {}
    for at in range(len(deeds)):
        if deeds[at][0] == "make" and at > 0:
            return False
        if deeds[at][0] == "drop" and at < len(deeds) - 1:
            return False
        if deeds[at][0] == "turn":
            link = (deeds[at][1], deeds[at][2])
            if link in turned:
                return False
            turned[link] = True
    return True
