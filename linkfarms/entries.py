"""The entries of packages [5] and the rows of their texts [18]."""

from linkfarms.errors import BadEntry, BadText
from linkfarms.paths import beginnings, in_order, is_path, order_key, parent, split_path
from linkfarms.values import is_integer

MOST_NAMES = 10
MOST_TARGET_NAMES = 8
MOST_DIGITS = 12
GREATEST_CONTENT = 999999999999
DIGITS = "0123456789"


def is_content(thing):
    """Whether any value is the content of a file: an integer of at most 12 digits."""
    return is_integer(thing) and abs(thing) <= GREATEST_CONTENT


def is_target(thing):
    """Whether any value is the target of a reference: a path of at most 8 names."""
    return is_path(thing) and len(split_path(thing)) <= MOST_TARGET_NAMES


def is_place(thing):
    """Whether any value may be the path of an entry: a path of 1 to 10 names."""
    return is_path(thing) and 1 <= len(split_path(thing)) <= MOST_NAMES


def is_item(thing):
    """Whether any value is the item of an entry."""
    return thing is None or is_content(thing) or is_target(thing)


def kind_of(item):
    """The kind of an entry with this item."""
    if item is None:
        return "folder"
    if isinstance(item, int):
        return "file"
    return "reference"


def check_entries(entries):
    """Raise BadEntry for any value that is not a dict of the entries of a package."""
    if not isinstance(entries, dict) or not all([isinstance(key, str) for key in entries]):
        raise BadEntry(None)
    wrong = [key for key in entries if not is_place(key)]
    if len(wrong) > 0:
        raise BadEntry(min(wrong))
    for path in in_order(list(entries)):
        if not is_item(entries[path]) or lies_below_leaf(entries, path):
            raise BadEntry(path)


def lies_below_leaf(entries, path):
    """Whether a path lies below a file or a reference among the entries."""
    return any([entries.get(place) is not None for place in beginnings(path)])


def with_parents(entries):
    """The dict of these entries and their parents, in path order."""
    full = dict(entries)
    for path in entries:
        for place in beginnings(path):
            full.setdefault(place, None)
    return {path: full[path] for path in in_order(list(full))}


def solid_entries(entries):
    """The dict of the files and the plain folders [10] among entries with all parents."""
    torn = {place: True for path in entries if isinstance(entries[path], str) for place in beginnings(path)}
    return {path: entries[path] for path in entries if not isinstance(entries[path], str) and path not in torn}


def names_within(entries):
    """A dict from the root and all folders to the ascending lists of the names directly in them."""
    rooms = {"": []}
    for path in entries:
        folder, slash, name = path.rpartition("/")
        rooms[folder].append(name)
        if entries[path] is None:
            rooms[path] = []
    return rooms


def row_of(path, item):
    """The row of an entry."""
    if item is None:
        return f"{path} folder"
    if isinstance(item, int):
        return f"{path} file {item}"
    return f"{path} to {written_path(item)}"


def written_path(path):
    """How a path is written where the root is a dot."""
    if path == "":
        return "."
    return path


def content_of(word):
    """The content that a word writes, None if it writes none."""
    digits = word.removeprefix("-")
    if len(digits) > MOST_DIGITS or digits == "":
        return None
    if not all([digit in DIGITS for digit in digits]):
        return None
    number = int(word)
    # This refuses leading zeros and "-0".
    if str(number) != word:
        return None
    return number


def target_of(word):
    """The target that a word writes, None if it writes none."""
    if word == ".":
        return ""
    if word == "" or not is_target(word):
        return None
    return word


def entry_of(row):
    """The tuple (path, item) that a row writes, None if it writes none."""
    words = row.split(" ")
    if not is_place(words[0]):
        return None
    if words[1:] == ["folder"]:
        return (words[0], None)
    if len(words) != 3:
        return None
    item = None
    if words[1] == "file":
        item = content_of(words[2])
    if words[1] == "to":
        item = target_of(words[2])
    if item is None:
        return None
    return (words[0], item)


def entries_of(text):
    """The entries that a text writes, however many; raises BadText for any value that is no text."""
    if not isinstance(text, str):
        raise BadText(-1)
    entries = {}
    if text == "":
        return entries
    last = ""
    rows = text.split("\n")
    for at in range(len(rows)):
        entry = entry_of(rows[at])
        if entry is None or not continues(entries, last, entry[0]):
            raise BadText(at)
        last = entry[0]
        entries[last] = entry[1]
    return entries


def continues(entries, last, path):
    """Whether a row with this path may follow the rows of these entries, the last one among them."""
    if order_key(path) <= order_key(last):
        return False
    folder = parent(path)
    return folder == "" or (folder in entries and entries[folder] is None)
