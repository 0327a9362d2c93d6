"""Layouts [10], and the least layout of a farm [11]."""

from linkfarms.charts import chart_of
from linkfarms.clashes import least_clash
from linkfarms.differences import least_difference
from linkfarms.errors import BadLayout, Clash
from linkfarms.forms import least_tables
from linkfarms.grounds import check_links, spot_after, wrong_link
from linkfarms.paths import check_path, is_name, split_path
from linkfarms.shapes import Shape
from linkfarms.values import is_joint, is_place_in_package
from linkfarms.ways import ways_of


class Layout:
    """A layout. It never changes; its joints and the names of each table stand in ascending order."""

    def __init__(self, tables, *, top=0):
        check_tables(tables, top)
        self.rows = {joint: sorted_row(tables[joint]) for joint in sorted(tables)}
        self.peak = top

    def tables(self):
        """A dict from the joints to their tables."""
        return {joint: dict(self.rows[joint]) for joint in self.rows}

    @property
    def top(self):
        """The joint that is the top."""
        return self.peak

    def seen(self):
        """The ascending list of the joints that a path reaches."""
        return sorted(joints_from(self))

    def links(self):
        """A generator of the links (joint, name, target), ascending by joint and name."""
        for joint in self.rows:
            row = self.rows[joint]
            for name in row:
                yield (joint, name, row[name])

    def __contains__(self, thing):
        return is_joint(thing) and thing in self.rows

    def __len__(self):
        return len(self.rows)

    def __eq__(self, other):
        return isinstance(other, Layout) and self.peak == other.peak and self.rows == other.rows

    def __repr__(self):
        return f"Layout({len(self.rows)} joints, {sum([len(self.rows[joint]) for joint in self.rows])} links)"


def check_tables(tables, top):
    """Raise BadLayout for any values that are not the tables and the top of a layout."""
    if not isinstance(tables, dict) or not all([is_joint(joint) for joint in tables]):
        raise BadLayout(None, None)
    if not is_joint(top) or top not in tables:
        raise BadLayout(None, None)
    for joint in sorted(tables):
        table = tables[joint]
        if not isinstance(table, dict) or not all([is_name(name) for name in table]):
            raise BadLayout(joint, None)
        wrong = [name for name in table if not is_target_in(tables, table[name])]
        if len(wrong) > 0:
            raise BadLayout(joint, min(wrong))


def is_target_in(rows, thing):
    """Whether any value may be the target of a link between these joints."""
    return is_place_in_package(thing) or (is_joint(thing) and thing in rows)


def sorted_row(table):
    """A copy of a table, the names ascending."""
    return {name: table[name] for name in sorted(table)}


def joints_from(layout):
    """A dict from the seen joints to True, in the order of the least paths that reach them."""
    found = {layout.peak: True}
    waiting = [layout.peak]
    at = 0
    while at < len(waiting):
        row = layout.rows[waiting[at]]
        for name in row:
            if isinstance(row[name], int) and row[name] not in found:
                found[row[name]] = True
                waiting.append(row[name])
        at += 1
    return found


def least_layout(packages):
    """The least layout of a farm; raises Clash(None, path) with the least path, TooMany(500)."""
    path = least_clash(ways_of(packages))
    if path is not None:
        raise Clash(None, path)
    return Layout(least_tables(packages, chart_of(packages)))


def missing(packages, layout):
    """The least link (joint, name) whose target is a tuple that is no file or plain folder of a package, or None."""
    return wrong_link(packages, layout)


def reached(packages, layout, path):
    """The joint or the tuple that a path reaches, or None."""
    check_path(path)
    check_links(packages, layout)
    spot = layout.peak
    for name in split_path(path):
        spot = spot_after(packages, layout.rows, spot, name)
    return spot


def differing(packages, layout):
    """The least path at which a layout does not show what a farm shows, or None; raises TooMany(500)."""
    check_links(packages, layout)
    return least_difference(chart_of(packages), Shape(packages, layout))


def is_least(packages, layout):
    """Whether a layout shows what a farm shows and has as few joints as possible; raises TooMany(500)."""
    if differing(packages, layout) is not None:
        return False
    return len(layout) == len(least_tables(packages, chart_of(packages)))


def renumbered(layout):
    """The seen joints of a layout, numbered from 0, the top, in the order of the least paths that reach them."""
    found = list(joints_from(layout))
    numbers = {found[at]: at for at in range(len(found))}
    tables = {}
    for joint in found:
        row = layout.rows[joint]
        tables[numbers[joint]] = {
            name: numbers[row[name]] if isinstance(row[name], int) else row[name] for name in row
        }
    return Layout(tables)
