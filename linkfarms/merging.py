"""States beyond which all is the same, merged into one."""


class Merged:
    """The classes of states: two states are in one class if they, and all paths beyond them, show the same.

    classes has the class of each state, views and moves have what a class shows, and the classes to which it leads.
    """

    def __init__(self, views, moves):
        self.classes = classes_of(views, moves)
        self.views = {}
        self.moves = {}
        for at in range(len(views)):
            number = self.classes[at]
            if number not in self.views:
                self.views[number] = views[at]
                self.moves[number] = {name: self.classes[moves[at][name]] for name in moves[at]}


def classes_of(views, moves):
    """The list of the numbers of the classes of the states; moves has a dict for each, names ascending."""
    classes = [0 for view in views]
    sizes = [len(views)]
    callers = callers_of(moves)
    touched = list(range(len(views)))
    while len(touched) > 0:
        parts = {}
        for at in touched:
            key = (views[at], tuple([(name, classes[moves[at][name]]) for name in moves[at]]))
            parts.setdefault(classes[at], {}).setdefault(key, []).append(at)
        changed = []
        for number in parts:
            changed.extend(split_class(classes, sizes, number, list(parts[number].values())))
        # Only a state that leads to a changed one can turn out to be different.
        touched = sorted({caller for at in changed for caller in callers[at]})
    return classes


def callers_of(moves):
    """For each state the list of the states that lead to it."""
    callers = [[] for row in moves]
    for at in range(len(moves)):
        for name in moves[at]:
            callers[moves[at][name]].append(at)
    return callers


def split_class(classes, sizes, number, groups):
    """Give new numbers to groups of a class that are different; the list of the states with a new number.

    Those of the class that are in no group keep its number; if there are none, the largest group keeps it.
    """
    changed = []
    if sum([len(group) for group in groups]) == sizes[number]:
        groups = sorted(groups, key=len)[:-1]
    for group in groups:
        sizes[number] -= len(group)
        for at in group:
            classes[at] = len(sizes)
        sizes.append(len(group))
        changed.extend(group)
    return changed
