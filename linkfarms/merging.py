"""States beyond which all is the same, merged into one."""


class Merged:
    """The classes of states: two states are in one class if they, and all paths beyond them, show the same.

    classes has the class of each state, samples a state of each class.
    """

    def __init__(self, views, moves):
        self.classes = classes_of(views, moves)
        self.samples = {}
        for at in range(len(views)):
            self.samples.setdefault(self.classes[at], at)
        self.all_views = views
        self.all_moves = moves

    def class_view(self, number):
        """What a class shows."""
        return self.all_views[self.samples[number]]

    def class_row(self, number):
        """A dict from the names that go on from a class to the classes to which they lead."""
        row = self.all_moves[self.samples[number]]
        return {name: self.classes[row[name]] for name in row}


def classes_of(views, moves):
    """The list of the numbers of the classes of the states; moves has a dict for each, names ascending."""
    numbers = {}
    classes = [numbers.setdefault((views[at], tuple(moves[at])), len(numbers)) for at in range(len(views))]
    sizes = [0 for key in numbers]
    for number in classes:
        sizes[number] += 1
    nexts = [list(row.values()) for row in moves]
    callers = callers_of(nexts)
    touched = list(range(len(views)))
    while len(touched) > 0:
        parts = {}
        for at in touched:
            # A state that is alone in its class stays so.
            if sizes[classes[at]] > 1:
                key = tuple([classes[to] for to in nexts[at]])
                parts.setdefault(classes[at], {}).setdefault(key, []).append(at)
        changed = []
        for number in parts:
            changed.extend(split_class(classes, sizes, number, list(parts[number].values())))
        # Only a state that leads to a changed one can turn out to be different.
        touched = sorted({caller for at in changed for caller in callers[at]})
    return classes


def callers_of(nexts):
    """For each state the list of the states that lead to it."""
    callers = [[] for row in nexts]
    for at in range(len(nexts)):
        for to in nexts[at]:
            callers[to].append(at)
    return callers


def split_class(classes, sizes, number, groups):
    """Give new numbers to groups of a class that are different; the list of the states with a new number.

    Those of the class that are in no group keep its number; if there are none, the largest group keeps it.
    """
    changed = []
    if sum([len(group) for group in groups]) == sizes[number]:
        groups = sorted(groups, key=len)[:-1]
    for group in groups:
        sizes[number] -= len(group)
        for at in group:
            classes[at] = len(sizes)
        sizes.append(len(group))
        changed.extend(group)
    return changed
