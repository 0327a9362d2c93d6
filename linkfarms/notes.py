"""What is worked out about farms, kept with their packages, so that the next question about a farm is quick.

A package never changes, so what was worked out about some packages stays right. It is found again by the tokens of
just these packages, whatever their names are and whichever dict they are passed in.
"""

MOST_NOTES = 8


class Token:
    """Stands for one package; no two packages have the same one."""


class Notebook:
    """What is known about some lists of packages, by the tuples of their tokens."""

    def __init__(self):
        self.rows = {}

    def recall(self, key):
        """What was noted under a key, or None."""
        return self.rows.get(key)

    def jot(self, key, thing):
        """Note something. The notes are thrown away when there are too many."""
        if len(self.rows) >= MOST_NOTES:
            self.rows.clear()
        self.rows[key] = thing


def tokens_of(packages, names):
    """The tuple of the tokens of the packages with these names."""
    return tuple([packages[name].token for name in names])
