"""Deeds [14]: which values they are, and layouts that are changed by them."""

from linkfarms.paths import is_name
from linkfarms.turning import TOP_JOINT, TOP_NAME
from linkfarms.values import is_ascending, is_integer, is_joint, is_place_in_package


def is_target(thing):
    """Whether any value may be the target of a link."""
    return is_joint(thing) or is_place_in_package(thing)


def is_deed(thing):
    """Whether any value has the form of a deed."""
    if not isinstance(thing, tuple) or len(thing) < 2 or not isinstance(thing[0], str):
        return False
    if thing[0] == "make":
        return len(thing) == 2 and is_row_of(thing[1], is_joint, is_table) and len(thing[1]) > 0
    if thing[0] == "drop":
        return len(thing) == 2 and is_drop_list(thing[1])
    if thing[0] == "turn" and len(thing) == 4:
        if is_top_link(thing):
            return is_joint(thing[3])
        return is_joint(thing[1]) and is_name(thing[2]) and (thing[3] is None or is_target(thing[3]))
    return False


def is_top_link(deed):
    """Whether a deed with the form of a turn, with any values, is about the top."""
    return is_integer(deed[1]) and deed[1] == TOP_JOINT and isinstance(deed[2], str) and deed[2] == TOP_NAME


def is_row_of(thing, is_key, is_worth):
    """Whether any value is a tuple of tuples (key, worth), ascending by the keys."""
    if not isinstance(thing, tuple) or not all([isinstance(part, tuple) and len(part) == 2 for part in thing]):
        return False
    if not all([is_key(key) and is_worth(worth) for key, worth in thing]):
        return False
    return is_ascending([key for key, worth in thing])


def is_table(thing):
    """Whether any value is the tuple of the links of a joint."""
    return is_row_of(thing, is_name, is_target)


def is_drop_list(thing):
    """Whether any value is an ascending tuple of at least one joint."""
    if not isinstance(thing, tuple) or len(thing) == 0 or not all([is_joint(joint) for joint in thing]):
        return False
    return is_ascending(thing)


def targets_in(deed):
    """The list of the targets that are not None in a deed."""
    if deed[0] == "make":
        return [target for joint, table in deed[1] for name, target in table]
    if deed[0] == "turn" and deed[3] is not None:
        return [deed[3]]
    return []


class Draft:
    """A layout that deeds change: rows are its tables, peak is the joint that is the top."""

    def __init__(self, layout):
        self.rows = layout.tables()
        self.peak = layout.peak

    def can_do(self, thing):
        """Whether any value is a deed that can be done."""
        if not is_deed(thing):
            return False
        if thing[0] == "make":
            return self.can_make(thing[1])
        if thing[0] == "drop":
            return self.can_drop(thing[1])
        return self.can_turn(thing[1], thing[2], thing[3])

    def can_make(self, joints):
        """Whether these joints are new, and all to which they lead are there."""
        made = {joint: True for joint, table in joints}
        if any([joint in self.rows for joint in made]):
            return False
        targets = [target for joint, table in joints for name, target in table]
        return all([self.is_there(target) or target in made for target in targets])

    def can_turn(self, joint, name, target):
        """Whether a link can get this target."""
        if joint == TOP_JOINT:
            return target in self.rows
        if joint not in self.rows:
            return False
        return name in self.rows[joint] if target is None else self.is_there(target)

    def can_drop(self, joints):
        """Whether these joints are there, none of them is seen, and no joint that stays leads to one."""
        gone = {joint: True for joint in joints}
        if not all([joint in self.rows for joint in joints]):
            return False
        # Who is not seen, and is reached from no joint that stays, is not the top and not led to by one that stays.
        staying = [joint for joint in self.rows if joint not in gone]
        return self.peak not in gone and not any([
            target in gone for joint in staying for target in list(self.rows[joint].values())
        ])

    def is_there(self, target):
        """Whether a target that is a joint is there."""
        return not isinstance(target, int) or target in self.rows

    def do(self, deed):
        """Do a deed that can be done."""
        if deed[0] == "make":
            for joint, table in deed[1]:
                self.rows[joint] = {name: target for name, target in table}
        elif deed[0] == "drop":
            for joint in deed[1]:
                del self.rows[joint]
        elif deed[1] == TOP_JOINT:
            self.peak = deed[3]
        elif deed[3] is None:
            del self.rows[deed[1]][deed[2]]
        else:
            self.rows[deed[1]][deed[2]] = deed[3]
