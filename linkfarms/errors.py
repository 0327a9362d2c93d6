"""The errors of linkfarms. Each field holds the argument of the same name, of any value."""


class BadPath(ValueError):
    """A value is not a path."""

    def __init__(self, path):
        self.path = path


class BadName(ValueError):
    """A value is not a name that may be given."""

    def __init__(self, name):
        self.name = name


class BadEntry(ValueError):
    """No package has these entries; path is the first wrong one."""

    def __init__(self, path):
        self.path = path


class BadContent(ValueError):
    """A value is not the content of a file."""

    def __init__(self, value):
        self.value = value


class BadLayout(ValueError):
    """The tables are not those of a layout; joint and name tell the first wrong one."""

    def __init__(self, joint, name):
        self.joint = joint
        self.name = name


class BadKeep(ValueError):
    """A value is not a keep."""


class BadDeed(ValueError):
    """The deed with this index is none, or cannot be done."""

    def __init__(self, index):
        self.index = index


class BadText(ValueError):
    """A value is not the text of a package; row is the index of the first wrong row."""

    def __init__(self, row):
        self.row = row


class BadCommand(ValueError):
    """A value is not a command."""


class BadPackage(TypeError):
    """A value is not a package."""

    def __init__(self, value):
        self.value = value


class NoEntry(KeyError):
    """A package has no entry at this path."""

    def __init__(self, path):
        self.path = path


class NoTarget(KeyError):
    """The target of this link is neither a file nor a plain folder of a package."""

    def __init__(self, joint, name):
        self.joint = joint
        self.name = name


class NoPackage(KeyError):
    """There is no package with this name."""

    def __init__(self, name):
        self.name = name


class NoFarm(KeyError):
    """There is no farm with this name."""

    def __init__(self, name):
        self.name = name


class NoFile(LookupError):
    """There is no file at this path."""

    def __init__(self, path):
        self.path = path


class NoFolder(LookupError):
    """There is no folder at this path."""

    def __init__(self, path):
        self.path = path


class NoReference(LookupError):
    """There is no reference at this path."""

    def __init__(self, path):
        self.path = path


class Shared(LookupError):
    """Several places hold the file."""

    def __init__(self, places):
        self.places = places


class Clash(RuntimeError):
    """A farm shows, or would show, a clash at this path."""

    def __init__(self, farm, path):
        self.farm = farm
        self.path = path


class Taken(RuntimeError):
    """This name, or this path, is taken already."""

    def __init__(self, name):
        self.name = name


class NotOrderly(RuntimeError):
    """A keep is not orderly; the links of the ring wait for one another."""

    def __init__(self, ring):
        self.ring = ring


class NothingToUndo(RuntimeError):
    """There is no deed that can be undone."""


class TooMany(OverflowError):
    """There are more things than this limit."""

    def __init__(self, limit):
        self.limit = limit
