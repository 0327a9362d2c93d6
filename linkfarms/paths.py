"""Names and paths [4]: which values they are, how they are taken apart and ordered."""

from linkfarms.errors import BadName, BadPath

LETTERS = "abcdefghijklmnopqrstuvwxyz"
LONGEST_NAME = 8


def is_name(thing):
    """Whether any value is a name: a string of 1 to 8 letters a to z."""
    # What is ASCII, consists of letters and has no capital among them consists of a to z.
    return (isinstance(thing, str) and 1 <= len(thing) <= LONGEST_NAME
            and thing.isascii() and thing.isalpha() and thing.islower())


def is_path(thing):
    """Whether any value is a path: the root, or names with a slash between two."""
    if not isinstance(thing, str):
        return False
    return thing == "" or all([is_name(part) for part in thing.split("/")])


def check_path(path):
    """Raise BadPath for any value that is not a path."""
    if not is_path(path):
        raise BadPath(path)


def names_of(path):
    """The tuple of the names of a path."""
    check_path(path)
    return tuple(split_path(path))


def path_of(*names):
    """The path with these names."""
    for name in names:
        if not is_name(name):
            raise BadName(name)
    return "/".join(names)


def parent(path):
    """The path without its last name, None for the root."""
    check_path(path)
    if path == "":
        return None
    return path.rpartition("/")[0]


def in_order(paths):
    """The sorted list of a list of paths, in path order."""
    return sorted(paths, key=order_key)


def split_path(path):
    """The list of the names of what is known to be a path."""
    if path == "":
        return []
    return path.split("/")


def joined(path, name):
    """The path that goes on from a path with this name."""
    if path == "":
        return name
    return f"{path}/{name}"


def order_key(path):
    """What path order compares: the number of the names, then the names."""
    parts = split_path(path)
    return (len(parts), parts)


def beginnings(path):
    """The list of the beginnings of a path, without the root and the path itself, in path order."""
    parts = split_path(path)
    return ["/".join(parts[:many]) for many in range(1, len(parts))]


def is_below(path, folder):
    """Whether the first path lies below the second one."""
    if folder == "":
        return path != ""
    return path.startswith(folder + "/")
