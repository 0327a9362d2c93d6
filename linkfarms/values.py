"""What kind of value a thing is, where any value may be passed [2]."""

from linkfarms.paths import is_name, is_path


def is_integer(thing):
    """Whether any value is an integer; True and False are none."""
    return isinstance(thing, int) and not isinstance(thing, bool)


def is_joint(thing):
    """Whether any value may be the number of a joint [10]: an integer from 0 on."""
    return is_integer(thing) and thing >= 0


def is_place_in_package(thing):
    """Whether any value is a tuple of a name and a path."""
    return isinstance(thing, tuple) and len(thing) == 2 and is_name(thing[0]) and is_path(thing[1])


def is_ascending(things):
    """Whether each of some things of one kind is greater than the one before it."""
    return all([things[at] < things[at + 1] for at in range(len(things) - 1)])
