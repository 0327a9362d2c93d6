"""Which files and plain folders show the same, and the least layout of a farm [11]."""

from linkfarms.merging import Merged
from linkfarms.paths import joined


class Forms:
    """The forms of files and plain folders: two have one form exactly if they show the same.

    numbers has the form for each key, which tells what a form is made of; least has for each form the least tuple
    (package, path); known has the form of each tuple.
    """

    def __init__(self, packages):
        self.numbers = {}
        self.least = []
        self.known = {}
        for name in sorted(packages):
            # Those with more names first, so that what is in a folder comes ahead of it.
            for path in reversed(list(packages[name].solid)):
                self.enter(name, path, packages[name])

    def enter(self, name, path, package):
        """Give a form to a file or a plain folder of a package."""
        content = package.solid[path]
        key = (content,)
        if content is None:
            key = tuple([(step, self.known[(name, joined(path, step))]) for step in package.rooms[path]])
        if key not in self.numbers:
            self.numbers[key] = len(self.least)
            self.least.append((name, path))
        form = self.numbers[key]
        self.known[(name, path)] = form
        self.least[form] = min(self.least[form], (name, path))


def least_tables(packages, chart):
    """The tables of the least layout of a farm with this chart, which has no clash; the top is 0."""
    merged = Merged(chart.views, chart.moves)
    rows = {number: merged.class_row(number) for number in merged.samples}
    forms = Forms(packages)
    folds = folds_of(merged, rows, forms)
    joints = [merged.classes[0]]
    numbers = {joints[0]: 0}
    tables = {}
    while len(tables) < len(joints):
        moves = rows[joints[len(tables)]]
        for name in moves:
            if moves[name] not in folds and moves[name] not in numbers:
                numbers[moves[name]] = len(joints)
                joints.append(moves[name])
        tables[len(tables)] = {
            name: forms.least[folds[moves[name]]] if moves[name] in folds else numbers[moves[name]]
            for name in moves
        }
    return tables


def folds_of(merged, rows, forms):
    """A dict from the classes of files, and of the folders that are the same as a plain folder, to their forms."""
    folds = {}
    waiting = list(rows)
    found = True
    # A folder has its form at the latest one round after all in it, and plain folders are not deep.
    while found:
        left = []
        for number in waiting:
            key = key_of(merged.class_view(number), rows[number], folds)
            if key in forms.numbers:
                folds[number] = forms.numbers[key]
            else:
                left.append(number)
        found = len(left) < len(waiting)
        waiting = left
    return folds


def key_of(view, row, folds):
    """The key of the form of a class, None if something in it has no form yet."""
    is_folder, contents = view
    if not is_folder:
        return contents
    if not all([number in folds for number in list(row.values())]):
        return None
    return tuple([(name, folds[row[name]]) for name in row])
