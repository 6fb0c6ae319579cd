"""Rollouts: points 65 to 71, and what points 8, 9 and 10 say of them."""

import random
import unittest

from releasehouse.building import built
from releasehouse.houses import House

from helpers import ODD, Asking, ended, plain_only, tree_with

FILES = {
    "app/main": "run",
    "build/all": "target out = cat file app/main set color\n",
    "fleet/places": ended("place south 2 land=fr", "place north 1", "place east 2", "place west 4"),
    "set/all": ended("color = red", "when land is fr", "color = blue", "end"),
}
TREE = tree_with(FILES)
# Of the places of the first tree, east moves ahead, north behind, south stays, west goes and ash is new.
MOVED = ended("place north 3", "place east 1", "place south 2", "place ash 2 land=fr")
NAMES = ("ash", "east", "north", "south", "west", "zoo")


def edit_of(text, places=None):
    """Return the edit that puts this program, and these places."""
    edit = (("put", "app/main", text),)
    return edit if places is None else edit + (("put", "fleet/places", places),)


def house_with(*edits):
    """Return a house with a release for the first tree, and one for each edit of it, landed."""
    house = House(TREE)
    house.release()
    for edit in edits:
        assert house.propose(len(house.history) - 1, edit, "joe", ()) == "ok"
        assert house.land().startswith("landed")
        house.release()
    return house


def go_on(house):
    """Do steps to the end, each place that is waited for being told well; return what step said."""
    said = []
    while not said or said[-1] not in ("done", "back", "none"):
        said.append(house.step())
        if said[-1].startswith("wait "):
            assert house.report(said[-1][5:], "well") == "ok"
        assert len(said) < 1000
    return said


def words(text):
    """Return the strings of a row of steps, which are parted by semicolons."""
    return [part.strip() for part in text.split(";")]


def state(house):
    """Return what each place runs, and the results."""
    return [(house.runs(name), house.running(name), house.wave(name), house.paper(name)) for name in NAMES]


class Rolling(Asking, unittest.TestCase):

    def run_of(self, house, **wanted):
        """Just this runs, by the names of the places."""
        self.assertEqual({name: house.runs(name) for name in NAMES if house.runs(name) is not None}, wanted)

    def open_at(self, house, number):
        """Roll out the release of this number to its end."""
        self.same(house.begin(number), "ok")
        self.assertEqual(go_on(house)[-1], "done")

    def steps(self, house, text):
        self.same([house.step() for _ in words(text)], words(text))


class OutTest(Rolling):

    def test_a_first_rollout(self):
        house = house_with()
        self.same(house.begin(number=0), "ok")
        self.same(house.rollout, (0, "out", tuple((name, None, None, None, False) for name in ("north", "east", "south", "west"))))
        self.same(go_on(house), words(
            "fetch north; switch north; wait north; fetch east; switch east; fetch south; switch south; wait east;"
            "wait south; fetch west; switch west; wait west; done"
        ))
        self.same(house.rollout, None)
        self.run_of(house, north=0, east=0, south=0, west=0)
        self.same(house.running("south"), (("out", ("made", "runblue")),))
        self.same([house.wave(name) for name in NAMES], [None, 2, 1, 2, 4, None])

    def test_what_is_shown_behind_each_step(self):
        house = house_with()
        house.begin(0)
        rows = {name: [name, None, None, None, False] for name in ("north", "east", "south", "west")}
        said = ""
        while True:
            shown = house.rollout
            self.same(shown, (0, "out", tuple(tuple(row) for row in rows.values())))
            self.assertTrue(plain_only(shown))
            if said.startswith("wait "):
                self.same(house.report(said[5:], "well"), "ok")
                rows[said[5:]][4] = True
                self.same(house.rollout, (0, "out", tuple(tuple(row) for row in rows.values())))
            said = house.step()
            if said == "done":
                break
            word, name = said.split(" ")
            if word == "fetch":
                rows[name][3] = 0
            elif word == "switch":
                rows[name][2:4] = [0, None]
        self.same([tuple(row) for row in rows.values()], [(name, None, 0, None, True) for name in rows])
        self.same(house.rollout, None)

    def test_waiting_goes_on_until_told_well(self):
        house = house_with()
        house.begin(0)
        self.steps(house, "fetch north; switch north; wait north; wait north; wait north")
        self.same(house.report(place="north", word="well"), "ok")
        self.same(house.report("north", "well"), "ok")
        self.steps(house, "fetch east; switch east; fetch south; switch south; wait east; wait east")
        # The second one that is waited for may be told well first.
        self.same(house.report("south", "well"), "ok")
        self.steps(house, "wait east")
        self.same(house.report("east", "well"), "ok")
        self.steps(house, "fetch west; switch west; wait west")

    def test_told_well_ahead_of_the_others_of_the_wave(self):
        house = house_with()
        house.begin(0)
        self.steps(house, "fetch north; switch north")
        house.report("north", "well")
        self.steps(house, "fetch east; switch east")
        self.same(house.report("east", "well"), "ok")
        self.same(house.report("south", "well"), "none")
        self.steps(house, "fetch south; switch south; wait south")

    def test_nothing_open(self):
        house = house_with()
        before = (house.rollout, state(house))
        self.same(house.step(), "none")
        self.same(house.halt(), "none")
        self.same(house.report("north", "well"), "none")
        self.same(house.report("north", "ill"), "none")
        self.same(house.lost(), "ok")
        self.same(house.cut("north"), "ok")
        self.same((house.rollout, state(house)), before)

    def test_begin(self):
        house = House(TREE)
        self.same(house.begin(0), "none")
        house.release()
        for number in (1, -1, 40, 10 ** 30, -(10 ** 30)):
            self.same(house.begin(number), "none")
        self.same(house.rollout, None)
        for value in ODD + [(), [], "0", TREE]:
            if isinstance(value, int) and not isinstance(value, bool):
                continue
            self.bad_value(1, house.begin, value)
        self.same(house.begin(0), "ok")
        self.same(house.begin(0), "open")
        # That there is no such release is told ahead of what is open.
        self.same(house.begin(1), "none")
        self.bad_value(1, house.begin, None)
        self.same(house.release(), "1")
        self.same(house.begin(1), "open")
        self.assertEqual(house.rollout[0], 0)

    def test_a_tree_without_places(self):
        house = house_with((("put", "fleet/places", ""),))
        self.same(house.begin(1), "ok")
        self.same(house.rollout, (1, "out", ()))
        self.steps(house, "done; none")
        self.open_at(house, 0)
        house.begin(1)
        self.same(house.rollout, (1, "out", tuple((name, 0, 0, None, False) for name in ("east", "north", "south", "west"))))
        self.steps(house, "switch east; switch north; switch south; switch west; done")
        self.run_of(house)

    def test_the_same_release_again(self):
        house = house_with()
        self.open_at(house, 0)
        house.begin(0)
        self.same(house.rollout[2], tuple((name, 0, 0, None, False) for name in ("north", "east", "south", "west")))
        self.same(go_on(house), words("wait north; wait east; wait south; wait west; done"))
        house.begin(0)
        self.same(house.report("west", "well"), "ok")
        self.same(house.report("north", "well"), "ok")
        self.same(go_on(house), words("wait east; wait south; done"))

    def test_two_releases_of_one_tree(self):
        house = house_with()
        self.same(house.release(), "1")
        self.open_at(house, 0)
        house.begin(1)
        self.steps(house, "fetch north; switch north; wait north")
        self.same((house.runs("north"), house.runs("east")), (1, 0))


class SecondTest(Rolling):

    def setUp(self):
        self.house = house_with(edit_of("walk", MOVED), edit_of("hop", "place zoo 1\n"))
        self.open_at(self.house, 0)

    def test_places_moved_new_and_gone(self):
        self.house.begin(1)
        self.same(self.house.rollout, (1, "out", (
            ("east", 0, 0, None, False), ("ash", None, None, None, False), ("south", 0, 0, None, False),
            ("north", 0, 0, None, False), ("west", 0, 0, None, False),
        )))
        self.same(go_on(self.house), words(
            "fetch east; switch east; wait east; fetch ash; switch ash; fetch south; switch south; wait ash; wait south;"
            "fetch north; switch north; wait north; switch west; done"
        ))
        self.run_of(self.house, east=1, ash=1, south=1, north=1)
        self.same([self.house.wave(name) for name in NAMES], [2, 1, 3, 2, None, None])
        self.same(self.house.running("ash"), (("out", ("made", "walkblue")),))
        self.same(self.house.running("south"), (("out", ("made", "walkred")),))

    def test_the_waves_are_those_of_what_runs(self):
        self.house.begin(1)
        self.same([self.house.wave(name) for name in NAMES], [None, 2, 1, 2, 4, None])
        self.steps(self.house, "fetch east")
        self.same(self.house.wave("east"), 2)
        self.steps(self.house, "switch east")
        self.same(self.house.wave("east"), 1)
        self.same(self.house.wave("north"), 1)

    def test_places_of_no_wave_any_more_come_last_by_name(self):
        self.house.begin(2)
        self.same([row[0] for row in self.house.rollout[2]], ["zoo", "east", "north", "south", "west"])
        self.same(go_on(self.house), words(
            "fetch zoo; switch zoo; wait zoo; switch east; switch north; switch south; switch west; done"
        ))
        self.run_of(self.house, zoo=2)

    def test_places_of_no_wave_are_not_told_well(self):
        self.house.begin(2)
        self.same(self.house.report("west", "well"), "none")
        self.same(self.house.report("west", "ill"), "none")
        self.steps(self.house, "fetch zoo; switch zoo")
        self.house.report("zoo", "well")
        self.steps(self.house, "switch east")
        self.same(self.house.report("east", "well"), "none")
        self.steps(self.house, "switch north; switch south; switch west")
        # They are among the places of the rollout until it is closed.
        self.same(self.house.rollout[2][1:], tuple((name, 0, None, None, False) for name in ("east", "north", "south", "west")))
        self.steps(self.house, "done")

    def test_a_place_that_leaves_waits_for_all_waves(self):
        self.house.begin(2)
        self.steps(self.house, "fetch zoo; switch zoo; wait zoo; wait zoo")
        self.run_of(self.house, zoo=2, east=0, north=0, south=0, west=0)

    def test_what_ran_without_a_place_is_remembered_by_the_next_rollout(self):
        self.open_at(self.house, 2)
        self.house.begin(1)
        self.same([row[:3] for row in self.house.rollout[2]], [
            ("east", None, None), ("ash", None, None), ("south", None, None), ("north", None, None), ("zoo", 2, 2),
        ])
        self.assertEqual(go_on(self.house)[-2:], ["switch zoo", "done"])
        self.run_of(self.house, east=1, ash=1, south=1, north=1)


class BackTest(Rolling):

    def setUp(self):
        self.house = house_with(edit_of("walk", MOVED), edit_of("hop", "place zoo 1\n"))
        self.open_at(self.house, 0)
        self.before = state(self.house)

    def test_halted_at_once(self):
        self.house.begin(1)
        self.same(self.house.halt(), "ok")
        self.assertEqual(self.house.rollout[:2], (1, "back"))
        self.same(self.house.halt(), "none")
        self.same(self.house.report("east", "ill"), "none")
        self.same(self.house.begin(1), "open")
        self.steps(self.house, "back; none")
        self.same(state(self.house), self.before)

    def test_from_the_last_one_on(self):
        self.house.begin(1)
        for said in ("fetch east", "switch east", "wait east"):
            self.same(self.house.step(), said)
        self.house.report("east", "well")
        self.steps(self.house, "fetch ash; switch ash; fetch south; switch south; wait ash")
        self.same(self.house.report("south", "ill"), "ok")
        self.same(self.house.rollout, (1, "back", (
            ("east", 0, 1, None, True), ("ash", None, 1, None, False), ("south", 0, 1, None, False),
            ("north", 0, 0, None, False), ("west", 0, 0, None, False),
        )))
        # Ash ran nothing, so nothing is fetched there.
        self.steps(self.house, "fetch south; switch south; switch ash; fetch east; switch east; back")
        self.same(state(self.house), self.before)
        self.same(self.house.rollout, None)

    def test_what_was_gone_comes_back(self):
        self.house.begin(2)
        self.house.step()
        self.house.step()
        self.house.report("zoo", "well")
        self.steps(self.house, "switch east; switch north; switch south; switch west")
        self.same(self.house.halt(), "ok")
        self.steps(self.house, (
            "fetch west; switch west; fetch south; switch south; fetch north; switch north; fetch east; switch east;"
            "switch zoo; back"
        ))
        self.same(state(self.house), self.before)

    def test_told_ill_of_one_that_was_told_well(self):
        self.house.begin(1)
        self.steps(self.house, "fetch east; switch east")
        self.house.report("east", "well")
        self.same(self.house.report("east", "ill"), "ok")
        # It still was told well.
        self.same(self.house.rollout[2][0], ("east", 0, 1, None, True))
        self.same(self.house.report("east", "well"), "none")
        self.same(self.house.lost(), "ok")
        self.same(self.house.rollout[2][0], ("east", 0, 1, None, False))
        self.steps(self.house, "fetch east; switch east; back")

    def test_turning_back_takes_away_what_was_fetched(self):
        self.house.begin(1)
        self.steps(self.house, "fetch east")
        self.same(self.house.rollout[2][0], ("east", 0, 0, 1, False))
        self.house.halt()
        self.same(self.house.rollout[2][0], ("east", 0, 0, None, False))
        self.steps(self.house, "back")
        self.house.begin(1)
        self.steps(self.house, "fetch east; switch east; wait east")
        self.house.halt()
        self.steps(self.house, "fetch east")
        self.same(self.house.rollout[2][0], ("east", 0, 1, 0, False))
        self.steps(self.house, "switch east")
        self.same(self.house.rollout[2][0], ("east", 0, 0, None, False))

    def test_closing_takes_away_what_was_fetched(self):
        # Nothing of an earlier rollout is there when the next one begins.
        self.house.begin(1)
        self.steps(self.house, "fetch east")
        self.house.halt()
        self.steps(self.house, "back")
        self.house.begin(1)
        self.steps(self.house, "fetch east")

    def test_whatever_landed_since(self):
        self.house.begin(1)
        self.steps(self.house, "fetch east; switch east; wait east")
        self.house.pack(("lib", 1, (), ""))
        self.house.propose(2, edit_of("jump", "place east 5\n"), "joe", ())
        self.same(self.house.land(), "landed 3")
        self.same(self.house.release(), "3")
        self.house.halt()
        self.same(go_on(self.house)[-1], "back")
        self.same(state(self.house), self.before)

    def test_halt_behind_each_step(self):
        for number in (0, 1, 2):
            self.house.begin(number)
            count = len(go_on(self.house)) - 1
            # Back to what ran ahead, to begin from it again.
            self.open_at(self.house, 0)
            for last in range(count + 1):
                for turn in (lambda name: self.house.halt(), lambda name: self.house.report(name, "ill")):
                    self.house.begin(number)
                    for _ in range(last):
                        said = self.house.step()
                        if said.startswith("wait "):
                            self.house.report(said[5:], "well")
                    there = [row[0] for row in self.house.rollout[2] if row[2] == number]
                    there = [name for name in there if self.house.report(name, "well") == "ok"]
                    if turn(there[0] if there else "none") == "none":
                        self.house.halt()
                    self.assertEqual(self.house.rollout[1], "back")
                    said = go_on(self.house)
                    self.same(said[-1], "back")
                    self.assertEqual(len(said), len(set(said)))
                    self.same(state(self.house), self.before)


class ReportTest(Rolling):

    def test_whom_reports_are_taken_from(self):
        house = house_with(edit_of("walk", MOVED))
        self.open_at(house, 0)
        house.begin(1)
        for name in NAMES:
            for word in ("well", "ill"):
                self.same(house.report(name, word), "none")
        house.step()
        self.same(house.report("east", "ill"), "none")
        house.step()
        self.same(house.report("north", "ill"), "none")
        self.same(house.report("east", "well"), "ok")
        self.assertEqual(house.rollout[1], "out")
        self.same([row[4] for row in house.rollout[2]], [True, False, False, False, False])

    def test_wrong_arguments(self):
        house = house_with()
        for begun in (False, True):
            if begun:
                house.begin(0)
                house.step()
                house.step()
            before = house.rollout
            for value in ODD + [(), [], "North", "", TREE]:
                if value not in ("a", "put", "drop", "clash"):
                    self.bad_value(1, house.report, value, "well")
                    self.bad_value(1, house.report, value, None)
                self.bad_value(2, house.report, "north", value)
                self.bad_value(2, house.report, "zoo", value)
            for word in ("Well", "well ", "wel", "sick", ("well",), ["ill"]):
                self.bad_value(2, house.report, "north", word)
            self.same(house.rollout, before)
            self.same(house.report("none", "well"), "none")
        self.same(house.report("north", "well"), "ok")


class CutsTest(Rolling):

    def test_lost(self):
        house = house_with()
        house.begin(0)
        self.steps(house, "fetch north; switch north; wait north")
        house.report("north", "well")
        self.steps(house, "fetch east")
        self.same(house.lost(), "ok")
        # Nothing else is forgotten: what is fetched, what runs, what ran.
        self.same(house.rollout, (0, "out", (
            ("north", None, 0, None, False), ("east", None, None, 0, False), ("south", None, None, None, False),
            ("west", None, None, None, False),
        )))
        self.steps(house, "wait north; wait north")
        house.report("north", "well")
        self.steps(house, "switch east; fetch south; switch south; wait east")
        house.lost()
        house.report("east", "well")
        self.steps(house, "wait north")
        house.report("north", "well")
        self.steps(house, "wait south")
        house.report("south", "well")
        self.steps(house, "fetch west")

    def test_cut(self):
        house = house_with()
        house.begin(0)
        self.steps(house, "fetch north")
        self.same(house.cut("east"), "ok")
        self.same(house.cut("zoo"), "ok")
        self.assertEqual(house.rollout[2][0][3], 0)
        self.same(house.cut(place="north"), "ok")
        self.same(house.rollout[2][0], ("north", None, None, None, False))
        self.steps(house, "fetch north; switch north")
        self.same(house.cut("north"), "ok")
        self.same(house.runs("north"), 0)
        self.same(house.cut("north"), "ok")
        house.report("north", "well")
        house.cut("north")
        self.same(house.rollout[2][0], ("north", None, 0, None, True))
        self.steps(house, "fetch east")

    def test_cut_on_the_way_back(self):
        house = house_with(edit_of("walk"))
        self.open_at(house, 0)
        house.begin(1)
        self.steps(house, "fetch north; switch north; wait north")
        house.halt()
        self.steps(house, "fetch north")
        house.cut("north")
        self.steps(house, "fetch north; switch north; back")

    def test_cut_and_lost_behind_each_step(self):
        house = house_with(edit_of("walk", MOVED))
        self.open_at(house, 0)
        whole = words(
            "fetch east; switch east; wait east; fetch ash; switch ash; fetch south; switch south; wait ash; wait south;"
            "fetch north; switch north; wait north; switch west; done"
        )
        for at in range(len(whole)):
            for way in ("cut", "lost", "both"):
                self.cut_once(house, at, way, whole)
                self.run_of(house, east=1, ash=1, south=1, north=1)
                self.open_at(house, 0)

    def cut_once(self, house, at, way, whole):
        """Roll release 1 out with one cut behind so many steps."""
        house.begin(1)
        told = 0
        for said in whole[:at]:
            self.same(house.step(), said)
            if said.startswith("wait "):
                self.same(house.report(said[5:], "well"), "ok")
                told += 1
        fetched = [row[0] for row in house.rollout[2] if row[3] is not None]
        if way in ("cut", "both"):
            for name in NAMES:
                self.same(house.cut(name), "ok")
            self.same([row[3] for row in house.rollout[2]], [None] * 5)
        if way in ("lost", "both"):
            self.same(house.lost(), "ok")
            self.same([row[4] for row in house.rollout[2]], [False] * 5)
        said = go_on(house)
        again = len(fetched) * (way != "lost") + told * (way != "cut")
        self.assertEqual(len(said), len(whole) - at + again)


class DrawnTest(Rolling):

    PLACES = (
        None, MOVED, "place zoo 1\n", ended("place ash 3", "place zoo 3"), "", ended("place north 9", "place west 1 land=fr"),
    )

    def house_of(self, chance):
        house = house_with(*[edit_of(f"run {at}", chance.choice(self.PLACES)) for at in range(3)])
        for number in chance.sample(range(4), 2):
            self.open_at(house, number)
        return house

    def test_cuts_that_end(self):
        chance = random.Random(9)
        for _ in range(150):
            house = self.house_of(chance)
            number = chance.randint(0, 3)
            before = state(house)
            ran = [house.runs(name) for name in NAMES]
            house.begin(number)
            named = [row[0] for row in house.rollout[2]]
            halted = chance.random() < 0.3
            for _ in range(chance.randint(0, 30)):
                self.disturbed(chance, house)
                if house.rollout is not None:
                    self.never_mixed(house, number, ran)
            if halted and house.rollout is not None:
                house.halt()
            if house.rollout is None:
                continue
            said = go_on(house)
            if halted:
                self.assertEqual(said[-1], "back")
                self.same(state(house), before)
                continue
            self.assertEqual(said[-1], "done")
            at, registry = house.releases[number]
            for name in NAMES:
                row = [part for part in house.history[at].files if part[0] == "fleet/places"]
                listed_there = f"place {name} " in "".join(content for _, content in row)
                self.same(house.runs(name), number if listed_there else None)
                if listed_there:
                    results = built(house.history[at], house.paper(name)[2], registry)
                    self.same(house.running(name), results)
            self.assertLessEqual({name for name in NAMES if house.runs(name) is not None}, set(named))

    def disturbed(self, chance, house):
        """Do a step, or cut something off, telling well whoever is waited for, mostly."""
        way = chance.choice(("step", "step", "step", "cut", "lost"))
        if way == "cut":
            house.cut(chance.choice(NAMES))
        elif way == "lost":
            house.lost()
        else:
            said = house.step()
            if said.startswith("wait ") and chance.random() < 0.8:
                self.same(house.report(said[5:], "well"), "ok")

    def never_mixed(self, house, number, ran):
        """Point 10: at most two releases, each place what it ran or the release, none ahead of its wave."""
        rows = house.rollout[2]
        self.assertLessEqual(len({row[2] for row in rows} - {None}), 2)
        for name, before, runs, fetched, _ in rows:
            self.same(before, ran[NAMES.index(name)])
            self.assertIn(runs, (before, number, None))
            self.assertIn(fetched, (None, number))

    def test_without_cuts_each_once(self):
        chance = random.Random(66)
        for _ in range(100):
            house = self.house_of(chance)
            ran = {name: house.runs(name) for name in NAMES}
            number = chance.randint(0, 3)
            self.same(house.begin(number), "ok")
            rows = house.rollout[2]
            said = go_on(house)
            self.assertEqual(len(said), len(set(said)))
            self.assertEqual(said[-1], "done")
            for name, _, _, _, _ in rows:
                mine = [part for part in said if part.endswith(" " + name)]
                if house.runs(name) is None:
                    self.same(mine, ["switch " + name])
                    self.assertIsNotNone(ran[name])
                elif ran[name] == number:
                    self.same(mine, ["wait " + name])
                else:
                    self.same(mine, [f"fetch {name}", f"switch {name}", f"wait {name}"])
            self.assertLessEqual(len({house.runs(name) for name in NAMES} - {None}), 1)

    def test_nothing_moves_ahead_of_the_waves(self):
        chance = random.Random(10)
        for _ in range(100):
            house = self.house_of(chance)
            house.begin(chance.randint(0, 3))
            for _ in range(40):
                ahead = house.rollout
                if ahead is None:
                    break
                said = house.step()
                if said.split(" ")[0] in ("fetch", "switch"):
                    self.waves_ahead_are_well(house, ahead, said.split(" ")[1])
                elif said.startswith("wait ") and chance.random() < 0.7:
                    house.report(said[5:], "well")
                if chance.random() < 0.1:
                    house.lost()

    def waves_ahead_are_well(self, house, ahead, name):
        number, _, rows = ahead
        tree = house.history[house.releases[number][0]]
        lines = [line.split(" ") for line in dict(tree.files)["fleet/places"].split("\n") if line]
        waves = {parts[1]: int(parts[2]) for parts in lines}
        for other, _, runs, _, well in rows:
            if waves.get(other, 10) < waves.get(name, 10):
                self.assertEqual((runs, well), (number, True))


if __name__ == "__main__":
    unittest.main()
