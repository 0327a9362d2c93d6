"""A desk [19]: a world to which one speaks in commands."""

from linkfarms.entries import content_of, written_path
from linkfarms.errors import BadCommand
from linkfarms.farms import has
from linkfarms.layouts import least_layout
from linkfarms.lots import OWN
from linkfarms.packages import Package
from linkfarms.paths import is_name, is_path
from linkfarms.ways import word_of
from linkfarms.worlds import World

DONE = "ok"
NO_ANSWER = "none"
# The words that follow each command. At the end, NAMES are any number of names, and ROWS any words.
FORMS = {
    "define": ("NAME", "ROWS"),
    "open": ("NAME", "NAMES"),
    "install": ("NAME", "NAME", "NAMES"),
    "uninstall": ("NAME", "NAME", "NAMES"),
    "undo": (),
    "write": ("NAME", "PATH", "NUMBER"),
    "folder": ("NAME", "PATH"),
    "replace": ("NAME", "PATH", "NUMBER"),
    "erase": ("NAME", "PATH"),
    "landing": ("NAME", "PATH"),
    "owners": ("NAME", "PATH"),
    "show": ("NAME", "PATH"),
    "ahead": ("NAME", "PATH", "NAME"),
    "links": ("NAME",),
}


def words_of(command):
    """The list of the words of a command; raises BadCommand for any value that is none."""
    if not isinstance(command, str) or "\n" in command:
        raise BadCommand()
    words = command.split(" ")
    if "" in words or words[0] not in FORMS or not fits(words[1:], FORMS[words[0]]):
        raise BadCommand()
    return words


def fits(words, form):
    """Whether words have the form that a command asks for."""
    if len(form) == 0 or form[-1] not in ("NAMES", "ROWS"):
        return len(words) == len(form) and all_are(words, form)
    many = len(form) - 1
    if len(words) < many or not all_are(words[:many], form):
        return False
    return form[-1] == "ROWS" or all([is_name(word) for word in words[many:]])


def all_are(words, form):
    """Whether all words are of the kinds that a form begins with."""
    return all([is_word(words[at], form[at]) for at in range(len(words))])


def is_word(word, kind):
    """Whether a word is of a kind."""
    if kind == "NAME":
        return is_name(word)
    if kind == "PATH":
        return word == "." or is_path(word)
    return content_of(word) is not None


def read_path(word):
    """The path that a word writes."""
    return "" if word == "." else word


def written_place(name, place):
    """How a landing, an owner or a holder is written."""
    return f"{OWN if name is None else name}:{written_path(place)}"


def written_link(joint, name, target):
    """How a link of a layout is written."""
    if isinstance(target, int):
        return f"{joint}/{name}={target}"
    package, path = target
    return f"{joint}/{name}={package}:{path}"


class Desk:
    """A desk with its world."""

    def __init__(self):
        self.stage = World()

    def say(self, command):
        """The answer to a command."""
        words = words_of(command)
        verb = words[0]
        if verb in ("define", "open", "install", "uninstall", "undo"):
            self.change(verb, words[1:])
            return DONE
        if verb in ("write", "folder", "replace", "erase"):
            return self.change_entry(verb, words[1], read_path(words[2]), words[3:])
        if verb == "links":
            answer = self.told_links(words[1])
        else:
            answer = self.told(verb, words[1], read_path(words[2]), words[3:])
        return NO_ANSWER if answer == "" else answer

    def world(self):
        """The world itself."""
        return self.stage

    def change(self, verb, words):
        """Change the packages and the farms of the world."""
        if verb == "define":
            rows = " ".join(words[1:])
            self.stage.define(words[0], Package.from_text(rows.replace("; ", "\n")))
        elif verb == "open":
            self.stage.open_farm(*words)
        elif verb == "install":
            self.stage.install(*words)
        elif verb == "uninstall":
            self.stage.uninstall(*words)
        else:
            self.stage.undo()

    def change_entry(self, verb, farm, path, more):
        """Change an entry of a farm; where it is, in writing."""
        if verb == "write":
            name, place = self.stage.write(farm, path, content_of(more[0]))
        elif verb == "folder":
            name, place = self.stage.make_folder(farm, path)
        elif verb == "replace":
            name, place = self.stage.replace(farm, path, content_of(more[0]))
        else:
            name, place = self.stage.erase(farm, path)
        return written_place(name, place)

    def told(self, verb, farm, path, more):
        """What there is to tell of a path of a farm, in writing."""
        if verb == "landing":
            name, place = self.stage.landing(farm, path)
            return written_place(name, place)
        if verb == "owners":
            return " ".join([written_place(name, place) for name, place in self.stage.owners(farm, path)])
        if verb == "ahead":
            found = self.stage.ahead(farm, path, more[0])
            return NO_ANSWER if found is None else written_path(found)
        view = has(self.stage.dict_of(farm), path)
        word = word_of(view)
        return f"{word} {view[1][0]}" if word == "file" else word

    def told_links(self, farm):
        """The links of the least layout of a farm, in writing."""
        layout = least_layout(self.stage.dict_of(farm))
        return " ".join([written_link(joint, name, target) for joint, name, target in layout.links()])
