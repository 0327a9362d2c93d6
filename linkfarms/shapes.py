"""What a layout shows at all paths [10]."""

from linkfarms.grounds import row_at, view_at


class Shape:
    """A layout in the form of a chart: views and moves of all spots that paths reach, 0 is the top."""

    def __init__(self, packages, layout):
        numbers = {layout.peak: 0}
        spots = [layout.peak]
        self.views = []
        self.moves = []
        while len(self.moves) < len(spots):
            spot = spots[len(self.moves)]
            row = row_at(packages, layout.rows, spot)
            for name in row:
                if row[name] not in numbers:
                    numbers[row[name]] = len(spots)
                    spots.append(row[name])
            self.views.append(view_at(packages, spot))
            self.moves.append({name: numbers[row[name]] for name in row})
