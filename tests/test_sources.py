"""Farms [6]: what leads where, what a farm has and shows at a path, the sources."""

import random
import unittest

from linkfarms.farms import has, names, shown, sources
from linkfarms.packages import Package
from plain import Told, all_paths, all_led_to, entries_of, had_at, order, rewritten_sources, word
from samples import deep, name_of
from some_farms import LETTERS, dealt, full_farm, place_of, random_farm, random_farms, random_path, ring, spiral

UP_TO_TWO = all_paths(LETTERS, 2)


def longer_paths(dice, many=3):
    return [random_path(dice, LETTERS, 3, 9) for _ in range(many)]


class Example(unittest.TestCase):
    def setUp(self):
        tool = Package({"bin/run": 1, "lib/core": 2, "share": "lib"})
        self.farm = {"more": Package({"bin": None, "lib/extra": 3}), "tool": tool}

    def test_as_in_the_document(self):
        self.assertEqual(shown(self.farm, "share/extra"), "file")
        self.assertEqual(has(self.farm, "lib"), (True, ()))
        self.assertEqual(sources(self.farm, "share/core"), ["lib/core"])

    def test_more_of_it(self):
        self.assertEqual(shown(self.farm, ""), "folder")
        self.assertEqual(shown(self.farm, "share"), "folder")
        self.assertEqual(shown(self.farm, "share/run"), "nothing")
        self.assertEqual(has(self.farm, "share/core"), (False, (2,)))
        self.assertEqual(has(self.farm, "share/core/x"), (False, ()))
        self.assertEqual(sources(self.farm, "share"), ["lib", "share"])
        self.assertEqual(sources(self.farm, ""), [""])
        self.assertEqual(sources(self.farm, "x"), [])
        self.assertEqual(names(self.farm, ""), ["bin", "lib", "share"])
        self.assertEqual(names(self.farm, "share"), ["core", "extra"])
        self.assertEqual(names(self.farm, "bin/run"), [])
        self.assertEqual(names(self.farm, "x"), [])


class AgainstRewriting(unittest.TestCase):
    def check(self, farm, path, found):
        entries = entries_of(farm)
        had = had_at(entries, found)
        self.assertEqual(sources(farm, path), found, (farm, path))
        self.assertEqual(has(farm, path), had)
        self.assertEqual(shown(farm, path), word(had))

    def test_targets_with_no_more_names_than_their_paths(self):
        dice = random.Random(61)
        for farm in random_farms(150, 6, longer=False):
            for path in UP_TO_TWO + longer_paths(dice):
                self.check(farm, path, rewritten_sources(farm, path))

    def test_names_by_rewriting(self):
        for farm in random_farms(100, 7, longer=False):
            entries = entries_of(farm)
            for path in UP_TO_TWO:
                longer = {name: path + "/" + name if path else name for name in LETTERS}
                found = [name for name in LETTERS
                         if word(had_at(entries, rewritten_sources(farm, longer[name]))) != "nothing"]
                self.assertEqual(names(farm, path), found, (farm, path))

    def test_any_references_by_a_table_that_fits(self):
        dice = random.Random(62)
        for farm in random_farms(250, 8):
            told = Told(farm)
            for path in UP_TO_TWO + longer_paths(dice):
                self.check(farm, path, told.sources(path))
            for path in ["", "a", "b/c"]:
                self.assertEqual(names(farm, path), told.names(path), (farm, path))

    def test_what_is_rewritten_by_way_of_a_few_names_is_among_the_sources(self):
        for farm in random_farms(60, 9):
            for path in UP_TO_TWO:
                found = sources(farm, path)
                self.assertLessEqual(set(rewritten_sources(farm, path, 7)), set(found))
                self.assertEqual(found, sorted(found, key=order))
                # A source leads to its own sources.
                for place in found:
                    self.assertLessEqual(set(sources(farm, place)), set(found))

    def test_farms_of_many_packages(self):
        dice = random.Random(63)
        for farm in random_farms(40, 10, packages=7, many=8):
            told = Told(farm)
            for path in UP_TO_TWO + longer_paths(dice):
                self.check(farm, path, told.sources(path))


class Rings(unittest.TestCase):
    def test_over_one_package_and_over_several(self):
        for many in [1, 2, 3, 7, 30]:
            for folder in ["", "d"]:
                rows = ring(many, folder)
                lead = folder + "/" if folder else ""
                for packages in [1, 2, 3, 6]:
                    farm = {name_of(at): Package(dict(rows[at::packages])) for at in range(packages)}
                    farm["z"] = Package({lead + place_of(many // 2) + "/file": 5})
                    places = sorted([path for path, target in rows], key=order)
                    for path in places:
                        self.assertEqual(sources(farm, path), places)
                        self.assertEqual(has(farm, path), (True, ()))
                        self.assertEqual(shown(farm, path + "/file"), "file")
                        self.assertEqual(names(farm, path), ["file"])

    def test_with_one_reference_left_out(self):
        rows = ring(5)
        farm = dealt(rows[:3] + rows[4:] + [(place_of(0), 8)])
        # 4 leads to 0, 1, 2 and 3, and 3 leads nowhere.
        told = {at: sources(farm, place_of(at)) for at in range(5)}
        self.assertEqual(told[4], [place_of(at) for at in [0, 1, 2, 4]])
        self.assertEqual(told[3], [])
        self.assertEqual(told[2], [place_of(2)])
        self.assertEqual(shown(farm, place_of(4)), "file")
        self.assertEqual(shown(farm, place_of(1)), "nothing")

    def test_without_files(self):
        for folder in ["", "d"]:
            farm = dealt(ring(6, folder))
            for path, target in ring(6, folder):
                self.assertEqual(shown(farm, path), "nothing")
                self.assertEqual(has(farm, path), (False, ()))
                self.assertEqual(names(farm, path), [])
                self.assertEqual(shown(farm, path + "/a"), "nothing")

    def test_long_paths_along_rings(self):
        farm = dealt(spiral(7) + [(place_of(3) + "/end", 1)])
        for many in range(201):
            path = "/".join([place_of(0)] + ["x"] * many)
            self.assertEqual(shown(farm, path), "folder")
            self.assertEqual(names(farm, path), ["end", "x"] if many % 7 == 3 else ["x"])
            self.assertEqual(shown(farm, path + "/end"), "file" if many % 7 == 3 else "nothing")
            self.assertEqual(sources(farm, path)[0], place_of(many % 7))


class OddReferences(unittest.TestCase):
    def test_to_themselves(self):
        farm = {"p": Package({"a": "a", "b/c": "b/c"})}
        for path in ["a", "b/c", "a/b", "a/a/a", "b/c/" + deep(30)]:
            self.assertEqual(shown(farm, path), "nothing")
        self.assertEqual(sources(farm, "a"), ["a"])
        self.assertEqual(sources(farm, "b/c"), ["b/c"])
        self.assertEqual(sources(farm, "b/c/b"), [])

    def test_to_a_path_below_themselves(self):
        farm = {"p": Package({"a": "a/a"}), "q": Package({"a/a/a/b": 4})}
        told = Told(farm)
        for many in range(1, 31):
            path = deep(many)
            self.assertEqual(shown(farm, path), "folder" if many <= 3 else "nothing")
            self.assertEqual(shown(farm, path + "/b"), "file" if many <= 3 else "nothing")
            self.assertEqual(sources(farm, path), told.sources(path))
        alone = {"p": Package({"a": "a/b"})}
        self.assertEqual(sources(alone, "a"), ["a"])
        self.assertEqual(shown(alone, "a"), "nothing")
        self.assertEqual(shown(alone, "a/b/b"), "nothing")

    def test_to_the_path_ahead_of_themselves(self):
        farm = {"p": Package({"a/a": "a", "a/f": 4})}
        for many in range(1, 31):
            self.assertEqual(shown(farm, deep(many)), "folder")
            self.assertEqual(shown(farm, deep(many) + "/f"), "file")
            self.assertEqual(names(farm, deep(many)), ["a", "f"])
        self.assertEqual(sources(farm, deep(30)), ["a", "a/a"])

    def test_to_the_root(self):
        farm = {"p": Package({"a": "", "b": 1})}
        self.assertEqual(sources(farm, "a"), ["", "a"])
        self.assertEqual(sources(farm, deep(30)), ["", "a"])
        self.assertEqual(shown(farm, "a"), "folder")
        self.assertEqual(shown(farm, deep(30) + "/b"), "file")
        self.assertEqual(names(farm, deep(2)), ["a", "b"])

    def test_there_and_back(self):
        farm = {"p": Package({"a": "b/c", "d": 3}), "q": Package({"b": "a/d"}), "r": Package({"a/d/c/e": 6})}
        told = Told(farm)
        for path in all_paths(["a", "b", "c", "d", "e"], 3) + ["/".join(["a", "d"] * 15), "/".join(["b", "c"] * 15)]:
            self.assertEqual(sources(farm, path), told.sources(path))

    def test_to_nothing(self):
        farm = {"p": Package({"a": "x/y", "b/c": "a/z"})}
        for path in ["a", "a/b", "b/c", "x", "x/y", "b/c/d"]:
            self.assertEqual(shown(farm, path), "nothing")
        self.assertEqual(shown(farm, "b"), "folder")
        self.assertEqual(names(farm, "b"), [])
        self.assertEqual(names(farm, ""), ["b"])

    def test_that_show_something_only_with_others(self):
        one = Package({"a": "b/c"})
        other = Package({"b": "d"})
        last = Package({"d/c": 9})
        self.assertEqual(shown({"p": one, "q": other}, "a"), "nothing")
        self.assertEqual(shown({"p": one, "r": last}, "a"), "nothing")
        self.assertEqual(shown({"p": one, "q": other, "r": last}, "a"), "file")

    def test_a_path_with_an_entry_and_a_reference(self):
        farm = {"p": Package({"a": "b", "b/x": 1}), "q": Package({"a/y": 2}), "r": Package({"a": "c", "c": 3})}
        self.assertEqual(sources(farm, "a"), ["a", "b", "c"])
        self.assertEqual(has(farm, "a"), (True, (3,)))
        self.assertEqual(shown(farm, "a"), "clash")
        self.assertEqual(names(farm, "a"), ["x", "y"])
        self.assertEqual(sources(farm, "a/x"), ["b/x"])
        self.assertEqual(sources(farm, "a/y"), ["a/y"])


class Whole(unittest.TestCase):
    def test_a_farm_without_packages(self):
        for farm in [{}, {"p": Package()}, {"p": Package(), "q": Package()}]:
            self.assertEqual(sources(farm, ""), [""])
            self.assertEqual(has(farm, ""), (True, ()))
            self.assertEqual(shown(farm, ""), "folder")
            self.assertEqual(names(farm, ""), [])
            self.assertEqual(shown(farm, "a"), "nothing")
            self.assertEqual(sources(farm, deep(200)), [])

    def test_the_parent_of_what_is_shown_has_a_folder_with_the_name(self):
        for farm in random_farms(80, 11):
            for path in UP_TO_TWO[1:] + ["a/b/c/a", "c/c/c/c/c"]:
                ahead, _, name = path.rpartition("/")
                self.assertEqual(shown(farm, path) != "nothing", name in names(farm, ahead))
                if shown(farm, path) != "nothing":
                    self.assertTrue(has(farm, ahead)[0])
                self.assertEqual(names(farm, path), sorted(set(names(farm, path))))

    def test_equal_contents_are_one(self):
        farm = {"p": Package({"a": 1, "b": 1}), "q": Package({"a": 1, "b": 2}), "r": Package({"c": "a", "b": -3})}
        self.assertEqual(has(farm, "a"), (False, (1,)))
        self.assertEqual(shown(farm, "a"), "file")
        self.assertEqual(shown(farm, "c"), "file")
        self.assertEqual(has(farm, "b"), (False, (-3, 1, 2)))
        self.assertEqual(shown(farm, "b"), "clash")

    def test_contents_and_a_folder_at_one_path(self):
        farm = {"p": Package({"a": 5}), "q": Package({"a": None}), "r": Package({"b/x": "a", "c": "b"})}
        for path in ["a", "b/x", "c/x"]:
            self.assertEqual(has(farm, path), (True, (5,)))
            self.assertEqual(shown(farm, path), "clash")
        self.assertEqual(shown(farm, "c"), "folder")

    def test_a_file_where_the_root_is(self):
        farm = {"p": Package({"a": ""}), "q": Package({"a": 5})}
        self.assertEqual(has(farm, "a"), (True, (5,)))
        self.assertEqual(has(farm, "a/a/a"), (True, (5,)))
        self.assertEqual(shown(farm, ""), "folder")

    def test_further_packages_take_nothing_away(self):
        dice = random.Random(12)
        for farm in random_farms(60, 12):
            more = {"x" + name: package for name, package in random_farm(dice).items()}
            for path in UP_TO_TWO:
                both = has({**farm, **more}, path)
                for part in [farm, more]:
                    is_folder, contents = has(part, path)
                    self.assertLessEqual(is_folder, both[0])
                    self.assertLessEqual(set(contents), set(both[1]))
                    self.assertLessEqual(set(sources(part, path)), set(sources({**farm, **more}, path)))

    def test_other_names_and_another_order(self):
        for farm in random_farms(40, 13):
            turned = {"z" + name: farm[name] for name in reversed(list(farm))}
            for path in UP_TO_TWO:
                self.assertEqual(sources(farm, path), sources(turned, path))
                self.assertEqual(has(farm, path), has(turned, path))
                self.assertEqual(names(farm, path), names(turned, path))

    def test_entries_dealt_out_to_several_packages(self):
        for farm in random_farms(40, 14):
            apart = {name_of(at): Package({path: item}) for at, (path, item) in enumerate(entries_of(farm))}
            for path in UP_TO_TWO:
                self.assertEqual(sources(farm, path), sources(apart, path))
                self.assertEqual(has(farm, path), has(apart, path))

    def test_names_exchanged_one_to_one(self):
        other = {"": "", "a": "zz", "b": "a", "c": "mmmm"}

        def exchanged(path):
            return "/".join([other[name] for name in path.split("/")])

        def changed(item):
            return exchanged(item) if isinstance(item, str) else item

        for farm in random_farms(60, 15):
            turned = {
                name: Package({exchanged(path): changed(item) for path, item in package.items()})
                for name, package in farm.items()
            }
            for path in UP_TO_TWO:
                self.assertEqual(shown(farm, path), shown(turned, exchanged(path)))
                self.assertEqual(sorted(map(exchanged, sources(farm, path)), key=order),
                                 sources(turned, exchanged(path)))

    def test_a_reference_is_what_a_copy_would_be(self):
        tree = {"b/x": 1, "b/y/z": 2, "b/w": None}
        copy = {path.replace("b", "d", 1): item for path, item in tree.items()}
        rest = {"q": Package({"c": "d/y", "e": "d"})}
        led = {"p": Package({**tree, "d": "b"}), **rest}
        copied = {"p": Package({**tree, **copy}), **rest}
        for path in all_paths(["b", "c", "d", "e", "w", "x", "y", "z"], 3):
            self.assertEqual(has(led, path), has(copied, path), path)
            self.assertEqual(names(led, path), names(copied, path), path)

    def test_a_path_has_all_that_is_where_it_leads(self):
        for farm in random_farms(30, 16, longer=False):
            for path in UP_TO_TWO:
                for place in all_led_to(farm, path):
                    is_folder, contents = has(farm, place)
                    self.assertLessEqual(is_folder, has(farm, path)[0])
                    self.assertLessEqual(set(contents), set(has(farm, path)[1]))


class Large(unittest.TestCase):
    def test_six_packages_of_forty_entries(self):
        dice = random.Random(17)
        letters = ["a", "b", "c", "d", "e", "f", "g", "h"]
        for seed in [1, 2]:
            farm = full_farm(seed)
            self.assertEqual([len(package) for package in farm.values()], [40] * 6)
            told = Told(farm)
            paths = [random_path(dice, letters, 1, 6) for _ in range(60)] + list(farm["one"].folders)
            for path in paths + ["/".join([dice.choice(letters) for _ in range(200)])]:
                self.assertEqual(sources(farm, path), told.sources(path))
                self.assertEqual(has(farm, path), told.has(path))

    def test_a_ring_over_six_packages(self):
        rows = ring(234)
        farm = {name_of(at): Package(dict(rows[at::6])) for at in range(6)}
        farm["g"] = Package({"f": place_of(0)})
        self.assertEqual(len(sources(farm, "f")), 235)
        farm["a"] = farm["a"].changed(place_of(0) + place_of(0), place_of(0) + "/" + deep(7))
        self.assertEqual(shown(farm, place_of(77)), "nothing")

    def test_many_places_at_each_of_two_hundred_names(self):
        many = 38
        farm = dealt(ring(many) + spiral(many) + [(place_of(5) + "/end", 3)])
        path = place_of(9) + "/x" * 199
        self.assertEqual(len(sources(farm, path)), 2 * many)
        self.assertEqual(shown(farm, path + "/end"), "file")
        self.assertEqual(shown(farm, path + "/end/x"), "nothing")

    def test_thousands_of_names(self):
        farm = dealt(spiral(7) + [(place_of(3) + "/end", 1)])
        path = place_of(0) + "/x" * 7003
        self.assertEqual(names(farm, path), ["end", "x"])
