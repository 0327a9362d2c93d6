"""What a keep brings [12, 13]: servers, the links that turn, and which of them wait for which."""

from linkfarms.tables import indexes

# The link that stands for the top.
TOP_JOINT = -1
TOP_NAME = ""


class Turning:
    """A keep of a pairing. turned are the links that turn, ascending; finals has their final targets.

    waits has for each of them the bits of the links for which it waits. Who is hasty only wants to know whether the
    keep is orderly: then waits stays as it is when two links wait for one another.
    """

    def __init__(self, pairing, seen, keep, hasty=False):
        self.pairing = pairing
        self.kept = {old: new for old, new in keep}
        self.servers = servers_of(pairing, seen, keep)
        self.finals = {}
        if self.servers[pairing.new.peak] != pairing.old.peak:
            self.finals[(TOP_JOINT, TOP_NAME)] = self.servers[pairing.new.peak]
        for old, new in keep:
            self.compare(old, new)
        self.turned = list(self.finals)
        self.waits = [0 for link in self.turned]
        self.find_waits(hasty)

    def final_row(self, new):
        """The table of a new joint with the final targets of its links."""
        row = self.pairing.new.rows[new]
        return {name: self.servers[row[name]] if isinstance(row[name], int) else row[name] for name in row}

    def compare(self, old, new):
        """Find the links of a kept joint that turn."""
        before = self.pairing.old.rows[old]
        after = self.final_row(new)
        for name in sorted({**before, **after}):
            if before.get(name) != after.get(name):
                self.finals[(old, name)] = after.get(name)

    def find_waits(self, hasty):
        """Find for each link that turns what its stretch says of it and of others."""
        of_joints = self.links_of_joints()
        common = sum([1 << self.pairing.numbers[(old, self.kept[old])] for old in self.kept])
        old_asked = sum([self.pairing.old.bits[old] for old in of_joints])
        new_asked = sum([self.pairing.new.bits[self.kept[old]] for old in of_joints])
        for at in range(len(self.turned)):
            itself = 1 << at
            old_bits, new_bits = self.pairing.stretch(self.first_pair(self.turned[at]), common, old_asked, new_asked)
            behind = 0
            for place in indexes(old_bits):
                behind = behind | of_joints.get(self.pairing.old.joints[place], 0)
            for place in indexes(new_bits):
                server = self.servers[self.pairing.new.joints[place]]
                self.waits[at] = self.waits[at] | (of_joints.get(server, 0) & ~itself)
            for other in indexes(behind & ~itself):
                self.waits[other] = self.waits[other] | itself
            if hasty and self.waits[at] & behind & ~itself != 0:
                return

    def links_of_joints(self):
        """A dict from the kept joints of which links turn to the bits of these links."""
        found = {}
        for at in range(len(self.turned)):
            joint = self.turned[at][0]
            if joint != TOP_JOINT:
                found[joint] = found.get(joint, 0) | 1 << at
        return found

    def first_pair(self, link):
        """The pair with which the stretch of a link begins."""
        joint, name = link
        if joint == TOP_JOINT:
            return self.pairing.pairs[0]
        return (self.pairing.old.rows[joint].get(name), self.pairing.new.rows[self.kept[joint]].get(name))

    def order(self):
        """The list of the numbers of the links, each one behind all for which it waits; some are left out in rings."""
        done = []
        left = (1 << len(self.turned)) - 1
        found = True
        while found:
            found = False
            for at in indexes(left):
                if self.waits[at] & left == 0:
                    done.append(at)
                    left = left ^ 1 << at
                    found = True
        return done

    def is_orderly(self):
        """Whether no link waits for itself, directly or through others."""
        return len(self.order()) == len(self.turned)


def servers_of(pairing, seen, keep):
    """A dict from the seen new joints to their servers, ascending."""
    kept = {new: old for old, new in keep}
    number = max(pairing.old.joints) + 1
    servers = {}
    for joint in seen:
        if joint in kept:
            servers[joint] = kept[joint]
        else:
            servers[joint] = number
            number += 1
    return servers


def shortest_ring(waits):
    """The numbers of a ring with as few links as possible, each of which waits for the one before it, or None."""
    best = None
    for start in range(len(waits)):
        ring = ring_from(waits, start, None if best is None else len(best) - 1)
        if ring is not None:
            best = ring
    return best


def ring_from(waits, start, most):
    """A shortest ring through a link, None if there is none or only with more than so many links."""
    before = {start: None}
    row = [start]
    found = 1 << start
    many = 1
    while len(row) > 0 and (most is None or many <= most):
        fresh = []
        for at in row:
            if waits[at] & (1 << start) != 0:
                return ring_back(before, at)
            for other in indexes(waits[at] & ~found):
                found = found | 1 << other
                before[other] = at
                fresh.append(other)
        row = fresh
        many += 1
    return None


def ring_back(before, last):
    """The ring that ends with the link from which before leads on, the last one found comes first."""
    ring = [last]
    while before[ring[len(ring) - 1]] is not None:
        ring.append(before[ring[len(ring) - 1]])
    return ring
