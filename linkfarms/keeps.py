"""Keeps [12] and what waits for what [13]: the joints that stay when an old layout becomes a new one."""

from linkfarms.charts import path_back
from linkfarms.errors import BadKeep, TooMany
from linkfarms.grounds import check_links
from linkfarms.pairings import Pairing
from linkfarms.tables import indexes
from linkfarms.turning import Turning, shortest_ring
from linkfarms.values import is_ascending, is_joint

MOST_JOINTS = 5


def pairing_of(packages, old, new):
    """The pairing of two layouts; raises NoTarget."""
    check_links(packages, old)
    check_links(packages, new)
    return Pairing(old, new)


def pairs(packages, old, new):
    """The ascending list of the pairs of two joints that paths reach."""
    return sorted(pairing_of(packages, old, new).pairs)


def meeting(packages, old, new, pair):
    """The least path that reaches a pair of two joints, or None."""
    pairing = pairing_of(packages, old, new)
    if not is_pair(pair) or pair not in pairing.numbers:
        return None
    return path_back(pairing.origins, pairing.numbers[pair])


def is_keep(packages, old, new, thing):
    """Whether any value is a keep."""
    return is_keep_of(pairing_of(packages, old, new), thing)


def is_keep_of(pairing, thing):
    """Whether any value is a keep of a pairing."""
    if not isinstance(thing, tuple) or not all([is_pair(pair) and pair in pairing.numbers for pair in thing]):
        return False
    many = len(thing)
    if len({old for old, new in thing}) < many or len({new for old, new in thing}) < many:
        return False
    return is_ascending(thing)


def is_pair(thing):
    """Whether any value is a tuple of two numbers of joints."""
    return isinstance(thing, tuple) and len(thing) == 2 and is_joint(thing[0]) and is_joint(thing[1])


def turning_of(packages, old, new, keep):
    """What a keep brings; raises NoTarget, BadKeep."""
    pairing = pairing_of(packages, old, new)
    if not is_keep_of(pairing, keep):
        raise BadKeep()
    return Turning(pairing, new.seen(), keep)


def servers(packages, old, new, keep):
    """A dict from the seen new joints to their servers."""
    return turning_of(packages, old, new, keep).servers


def turns(packages, old, new, keep):
    """The ascending list of the links that turn."""
    return list(turning_of(packages, old, new, keep).turned)


def waits(packages, old, new, keep):
    """The ascending list of the tuples (link, link for which it waits)."""
    turning = turning_of(packages, old, new, keep)
    links = turning.turned
    return [(links[at], links[other]) for at in range(len(links)) for other in indexes(turning.waits[at])]


def ring(packages, old, new, keep):
    """Links with as few as possible, each of which waits for the one before it, the first one for the last one.

    None if the keep is orderly.
    """
    return ring_of(turning_of(packages, old, new, keep))


def ring_of(turning):
    """The list of the links of a shortest ring, or None."""
    found = shortest_ring(turning.waits)
    return None if found is None else [turning.turned[at] for at in found]


def greatest_keep(packages, old, new):
    """An orderly keep with as many pairs as possible; raises TooMany(5) for a layout of more joints."""
    return greatest_turning(packages, old, new)[0]


def greatest_turning(packages, old, new):
    """The tuple of a greatest orderly keep and what it brings; raises NoTarget, TooMany(5)."""
    pairing = pairing_of(packages, old, new)
    if len(old) > MOST_JOINTS or len(new) > MOST_JOINTS:
        raise TooMany(MOST_JOINTS)
    seen = new.seen()
    for keep in sorted(all_keeps(sorted(pairing.pairs)), key=lambda row: (-len(row), row)):
        turning = Turning(pairing, seen, keep, hasty=True)
        if turning.is_orderly():
            return (keep, turning)


def all_keeps(found):
    """The list of all keeps of these pairs, which are ascending."""
    keeps = [()]
    for old, new in found:
        longer = []
        for keep in keeps:
            if all([old != one and new != other for one, other in keep]):
                longer.append((*keep, (old, new)))
        keeps.extend(longer)
    return keeps


def fewest_makes(packages, old, new):
    """How many joints the plan of a greatest orderly keep makes; raises TooMany(5)."""
    return len(new.seen()) - len(greatest_keep(packages, old, new))
