"""Whether each path shows what it showed before or will show afterwards, while a layout is changed [14]."""

from linkfarms.charts import path_back
from linkfarms.forms import Forms
from linkfarms.grounds import row_at, spot_after, view_at
from linkfarms.paths import joined


class Watch:
    """An old and a new layout, beside which a layout in between is looked at."""

    def __init__(self, packages, old, new):
        self.ground = packages
        self.known = Forms(packages).known
        self.old = old
        self.new = new

    def wrong_path(self, draft):
        """The least path at which a layout shows neither what the old nor what the new layout shows, or None."""
        triples = [(self.old.peak, self.new.peak, draft.peak)]
        found = {triples[0]: True}
        origins = [None]
        at = 0
        while at < len(triples):
            for name in self.names_from(triples[at], draft):
                triple = self.after(triples[at], draft, name)
                if self.is_wrong(triple):
                    return joined(path_back(origins, at), name)
                if triple not in found and not self.is_settled(triple):
                    found[triple] = True
                    triples.append(triple)
                    origins.append((at, name))
            at += 1
        return None

    def names_from(self, triple, draft):
        """The ascending list of the names that go on from one of three spots."""
        old, new, now = triple
        return sorted({
            **row_at(self.ground, self.old.rows, old),
            **row_at(self.ground, self.new.rows, new),
            **row_at(self.ground, draft.rows, now),
        })

    def after(self, triple, draft, name):
        """The three spots that a name reaches."""
        old, new, now = triple
        return (
            spot_after(self.ground, self.old.rows, old, name),
            spot_after(self.ground, self.new.rows, new, name),
            spot_after(self.ground, draft.rows, now, name),
        )

    def is_wrong(self, triple):
        """Whether the third spot shows neither what the first nor what the second one shows."""
        old, new, now = triple
        view = view_at(self.ground, now)
        return view != view_at(self.ground, old) and view != view_at(self.ground, new)

    def is_settled(self, triple):
        """Whether it is plain that the third spot shows below it just what one of the others shows."""
        old, new, now = triple
        if isinstance(now, int):
            return False
        form = self.form(now)
        return form == self.form(old) or form == self.form(new)

    def form(self, spot):
        """A number by which a file, a plain folder or nothing is known; None for a joint."""
        if spot is None:
            return -1
        return self.known.get(spot)
