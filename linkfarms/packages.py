"""Packages [5]: trees of files, folders and references, with their texts [18]."""

from linkfarms.entries import check_entries, entries_of, kind_of, names_within, row_of, solid_entries, with_parents
from linkfarms.errors import NoEntry, NoFile, NoFolder, NoReference, TooMany
from linkfarms.notes import Notebook, Token
from linkfarms.paths import check_path, is_below


class Package:
    """A package. It never changes; its entries stand in path order, so nothing sorts them again.

    solid has the entries to which a link of a layout may lead: files and plain folders. rooms has the names directly
    in each folder. token stands for the package, and notes are for what is worked out about farms that have it.
    """

    LIMIT = 40

    def __init__(self, entries=None):
        given = {} if entries is None else entries
        check_entries(given)
        self.entries = with_parents(given)
        if len(self.entries) > self.LIMIT:
            raise TooMany(self.LIMIT)
        self.solid = solid_entries(self.entries)
        self.rooms = names_within(self.entries)
        self.token = Token()
        self.notes = Notebook()

    def kind(self, path):
        """What stands at a path, in a word; None for a path without an entry."""
        check_path(path)
        if path == "":
            return "folder"
        if path not in self.entries:
            return None
        return kind_of(self.entries[path])

    def content(self, path):
        """The content of the file at a path."""
        if self.kind(path) != "file":
            raise NoFile(path)
        return self.entries[path]

    def target(self, path):
        """The target of the reference at a path."""
        if self.kind(path) != "reference":
            raise NoReference(path)
        return self.entries[path]

    def names(self, path):
        """The ascending list of the names directly in a folder."""
        if self.kind(path) != "folder":
            raise NoFolder(path)
        return list(self.rooms[path])

    def is_plain(self, thing):
        """Whether any value is the path of an entry that is a folder without a reference below it."""
        return isinstance(thing, str) and thing in self.solid and self.solid[thing] is None

    def items(self):
        """A generator of the tuples (path, item), in path order."""
        for path in self.entries:
            yield (path, self.entries[path])

    @property
    def files(self):
        """The list of the paths of the files, in path order."""
        return self.paths_of("file")

    @property
    def folders(self):
        """The list of the paths of the folders, in path order."""
        return self.paths_of("folder")

    @property
    def references(self):
        """The list of the paths of the references, in path order."""
        return self.paths_of("reference")

    def paths_of(self, kind):
        """The list of the paths of the entries of a kind, in path order."""
        return [path for path in self.entries if kind_of(self.entries[path]) == kind]

    def changed(self, path, item):
        """A package with this entry added or replaced."""
        check_path(path)
        entries = dict(self.entries)
        entries[path] = item
        return Package(entries)

    def without(self, path):
        """A package without this entry and all below it."""
        check_path(path)
        if path not in self:
            raise NoEntry(path)
        left = [place for place in self.entries if place != path and not is_below(place, path)]
        return Package({place: self.entries[place] for place in left})

    def __contains__(self, thing):
        return isinstance(thing, str) and thing in self.entries

    def __len__(self):
        return len(self.entries)

    def __eq__(self, other):
        return isinstance(other, Package) and self.entries == other.entries

    def __repr__(self):
        return f"Package({len(self.files)} files, {len(self.folders)} folders, {len(self.references)} references)"

    def __str__(self):
        return "\n".join([row_of(path, self.entries[path]) for path in self.entries])

    @classmethod
    def from_text(cls, text):
        """The package with this text."""
        return cls(entries_of(text))
