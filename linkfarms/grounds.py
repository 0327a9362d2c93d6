"""What the targets of links stand for [10].

A *spot* is what a path reaches: the number of a joint, a tuple (package, path) of a file or a folder, or None.
Layouts are read by their rows, the dict of their tables, and their peak, the joint that is the top.
"""

from linkfarms.errors import NoTarget
from linkfarms.paths import joined
from linkfarms.ways import FOLDER_VIEW


def stands(packages, target):
    """Whether a tuple of a name and a path is a file or a plain folder of a package."""
    name, path = target
    return name in packages and path in packages[name].solid


def wrong_link(packages, layout):
    """The least link (joint, name) whose target is a tuple that is no file or plain folder of a package, or None."""
    for joint in layout.rows:
        row = layout.rows[joint]
        for name in row:
            if not isinstance(row[name], int) and not stands(packages, row[name]):
                return (joint, name)
    return None


def check_links(packages, layout):
    """Raise NoTarget for the least link that leads to no file and no plain folder."""
    link = wrong_link(packages, layout)
    if link is not None:
        joint, name = link
        raise NoTarget(joint, name)


def spot_after(packages, rows, spot, name):
    """The spot that a name reaches from a spot."""
    if spot is None:
        return None
    if isinstance(spot, int):
        return rows[spot].get(name)
    package, path = spot
    longer = joined(path, name)
    return (package, longer) if longer in packages[package].solid else None


def row_at(packages, rows, spot):
    """A dict from the names that go on from a spot to the spots that they reach, ascending."""
    if spot is None:
        return {}
    if isinstance(spot, int):
        return rows[spot]
    package, path = spot
    return {name: (package, joined(path, name)) for name in packages[package].rooms.get(path, ())}


def view_at(packages, spot):
    """The tuple (is_folder, contents) of what a layout shows at a path that reaches a spot."""
    if spot is None:
        return (False, ())
    if isinstance(spot, int):
        return FOLDER_VIEW
    package, path = spot
    content = packages[package].solid[path]
    return FOLDER_VIEW if content is None else (False, (content,))
