"""The paths of a farm with so many names, found one after another [8]."""

from linkfarms.tables import indexes

# How many steps of a long row of single names are noted.
MOST_NOTED = 40


class Tour:
    """The ways to the wanted states of a chart.

    good has for each number of names from 0 on the bits of the states from which so many names lead on to a wanted
    one.
    """

    def __init__(self, moves, wanted):
        self.moves = moves
        self.callers = [0 for row in moves]
        for at in range(len(moves)):
            for to in list(moves[at].values()):
                self.callers[to] = self.callers[to] | 1 << at
        self.good = [sum([1 << at for at in range(len(wanted)) if wanted[at]])]
        self.shortcuts = {}

    def lengthen(self):
        """Look one name further ahead; whether any state leads on to a wanted one so far away."""
        longer = 0
        for at in indexes(self.good[-1]):
            longer = longer | self.callers[at]
        self.good.append(longer)
        return longer != 0

    def names_ahead(self, at, left):
        """The ascending list of the names that go on from a state to a wanted one that is so many names away."""
        near = self.good[left - 1]
        row = self.moves[at]
        return [name for name in row if near >> row[name] & 1]

    def shortcut(self, at, left):
        """The tuple (names, state, names left, next names) of what follows where only one name goes on at a time.

        The names have a slash ahead of each. They lead to the wanted state, or to one from which several names go on.
        What comes behind a state is found once, however many paths lead there.
        """
        start = (at, left)
        passed = []
        parts = []
        while (at, left) not in self.shortcuts:
            names = self.names_ahead(at, left) if left > 0 else []
            if len(names) != 1:
                self.shortcuts[(at, left)] = ("", at, left, names)
            else:
                passed.append((at, left))
                parts.append("/" + names[0])
                at = self.moves[at][names[0]]
                left -= 1
        more, at, left, names = self.shortcuts[(at, left)]
        # The first ones are enough: with rings of that many steps a later path soon comes to one of them.
        near = min(len(parts), MOST_NOTED)
        more = "".join(parts[near:]) + more
        for step in reversed(range(near)):
            more = parts[step] + more
            self.shortcuts[passed[step]] = (more, at, left, names)
        return self.shortcuts[start]


def paths_ahead(tour, length):
    """A generator of the tuples (path, state) of the paths with so many names to a wanted state, in path order."""
    stack = [("", 0, length)] if tour.good[length] & 1 else []
    while len(stack) > 0:
        path, at, left = stack.pop()
        if left > 0:
            more, at, left, names = tour.shortcut(at, left)
            path = path + more
        if left == 0:
            yield (path[1:], at)
        else:
            row = tour.moves[at]
            stack.extend([(path + "/" + name, row[name], left - 1) for name in reversed(names)])
