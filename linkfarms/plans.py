"""Plans [14]: an old layout becomes a new one, link by link."""

from linkfarms.drafts import Draft
from linkfarms.errors import BadDeed, NotOrderly
from linkfarms.keeps import greatest_turning, ring_of, turning_of
from linkfarms.layouts import Layout


def plan(packages, old, new, *, keep=None):
    """The plan of an orderly keep, of a greatest one if it is None; raises BadKeep, NotOrderly(ring), TooMany(5)."""
    if keep is None:
        turning = greatest_turning(packages, old, new)[1]
    else:
        turning = turning_of(packages, old, new, keep)
        if not turning.is_orderly():
            raise NotOrderly(ring_of(turning))
    deeds = [turn_of(turning, turning.turned[at]) for at in turning.order()]
    built = built_joints(turning)
    dropped = tuple([joint for joint in old.rows if joint not in turning.kept])
    if len(built) > 0:
        deeds = [("make", built), *deeds]
    if len(dropped) > 0:
        deeds.append(("drop", dropped))
    return deeds


def turn_of(turning, link):
    """The deed by which a link gets its final target."""
    joint, name = link
    return ("turn", joint, name, turning.finals[link])


def built_joints(turning):
    """The tuple of the tuples (joint, links) of the joints that are built, ascending."""
    servers = turning.servers
    built = []
    for joint in servers:
        if servers[joint] not in turning.kept:
            row = turning.final_row(joint)
            built.append((servers[joint], tuple([(name, row[name]) for name in row])))
    return tuple(built)


def stops(old, deeds):
    """A generator of the layouts before the first deed and after each one.

    It raises BadDeed(index) when it comes to a deed that is none or cannot be done.
    """
    draft = Draft(old)
    yield Layout(draft.rows, top=draft.peak)
    for at in range(len(deeds)):
        if not draft.can_do(deeds[at]):
            raise BadDeed(at)
        draft.do(deeds[at])
        yield Layout(draft.rows, top=draft.peak)


def makes(deeds):
    """How many joints these deeds make."""
    return sum([len(deed[1]) for deed in deeds if deed[0] == "make"])
