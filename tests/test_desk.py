"""The desk: points 78 to 81, and what points 13 and 17 say of it."""

import random
import unittest

from releasehouse.desk import Desk
from releasehouse.errors import HouseError
from releasehouse.houses import House
from releasehouse.texts import parse, printed
from releasehouse.trees import Tree

from drawn import PACKAGES, edit_of, first_of
from helpers import ODD, Asking, edit_to, ended, tree_with

FILES = {
    "app/main": "run",
    "build/all": ended("target out = cat file app/main set color", "test fine = has dep out lit run"),
    "fleet/places": ended("place south 2 land=fr", "place north 1"),
    "own/rules": ended("own app 1 ann bob"),
    "set/all": ended("color = red", "when land is fr", "color = blue", "end"),
}
TREE = tree_with(FILES)
LOOKS = ("history", "registry", "landings", "waiting", "work", "releases", "rollout")


def put(desk, name, text):
    """Put a text at a desk, line by line."""
    assert text.endswith("\n")
    for line in text[:-1].split("\n"):
        assert desk.run(f"line {name} {line}") == "ok"


def desk_with(start=True, **values):
    """Return a desk with these values printed as texts; a house is begun with the one called tree."""
    desk = Desk()
    for name, value in {"tree": TREE, **values}.items():
        put(desk, name, value if isinstance(value, str) else printed(value))
    if start:
        assert desk.run("start tree") == "ok"
    return desk


def seen(house):
    """Return all that can be seen of a house, or None."""
    if house is None:
        return None
    places = [(house.runs(name), house.running(name), house.paper(name)) for name in ("north", "south", "east", "west")]
    return [getattr(house, name) for name in LOOKS] + [places]


class TextsTest(Asking, unittest.TestCase):

    def test_line_show_clear(self):
        desk = Desk()
        self.same(desk.run("line a one"), "ok")
        self.same(desk.run("show a"), "one\n")
        self.same(desk.run(command="line a two three"), "ok")
        self.same(desk.run("line b x"), "ok")
        self.same(desk.run("show a"), "one\ntwo three\n")
        self.same(desk.run("clear a"), "ok")
        self.same(desk.run("show a"), "")
        self.same(desk.run("clear a"), "ok")
        self.same(desk.run("line a again"), "ok")
        self.same((desk.run("show a"), desk.run("show b")), ("again\n", "x\n"))

    def test_everything_behind_the_one_blank(self):
        desk = Desk()
        for line in ("", " ", "  x  y ", "|", "line a b", "-", "show a", "a\\b", "!$&/()=?", "x" * 5000):
            self.same(desk.run("line a " + line), "ok")
            self.same(desk.run("show a"), line + "\n")
            self.same(desk.run("clear a"), "ok")
        self.bad_syntax(0, desk.run, "line a")
        self.bad_syntax(0, desk.run, "line")
        self.bad_syntax(0, desk.run, "line ")
        self.bad_syntax(0, desk.run, "line  ")
        self.bad_syntax(0, desk.run, "line  a")
        self.bad_syntax(0, desk.run, "line  a b")
        self.bad_syntax(0, desk.run, "line A b")
        self.bad_syntax(0, desk.run, "line a/b c")

    def test_unknown(self):
        desk = Desk()
        for command in ("show a", "clear a", "start a", "pack a", "propose 0 a joe -"):
            self.same(desk.run(command), "error Unknown")
        self.same(desk.house, None)
        desk.run("line b x")
        self.same(desk.run("show a"), "error Unknown")
        self.same(desk.run("line a "), "ok")
        self.same(desk.run("show a"), "\n")


class FormsTest(Asking, unittest.TestCase):

    forms = (
        "line a b", "line a ", "clear a", "show a", "start a", "pack a", "propose 0 a joe -", "propose 12 a joe ann,bob",
        "propose 9999 a1 b2 c3", "land", "release", "begin 0", "begin 10", "begin 9999", "step", "report a well",
        "report a ill", "halt", "lost", "cut a", "runs a", "work", "failing a", "bad a b", "show abcdefghijkl",
        "propose 0 a joe " + ",".join("abcdefghijkl"), "propose 0 a joe b,a", "propose 0 a joe a,a", "clear line",
    )

    def test_forms(self):
        desk = Desk()
        for command in self.forms:
            self.assertIsInstance(desk.run(command), str)
        self.same(desk.log(), ended(*self.forms))

    def near_misses(self):
        yield from ("", " ", "  ", "?", "Land", "lands", "lan", "none", "error", "log", "house", "replayed", "tree", "|")
        for command in self.forms:
            if command.startswith("line "):
                continue
            yield from (command + " ", " " + command, command + " a", command.upper(), command.replace(" ", "  ", 1) + " x")
            parts = command.split(" ")
            for at in range(len(parts)):
                yield " ".join(parts[:at] + parts[at + 1:])
                yield " ".join(parts[:at] + [parts[at], ""] + parts[at + 1:])
                yield " ".join(parts[:at] + [""] + parts[at + 1:])
                if at > 0:
                    for odd in ("?", "A", "a_b", "-a", "a/b", "abcdefghijklm", "1a", "|"):
                        yield " ".join(parts[:at] + [odd] + parts[at + 1:])

    def test_near_misses(self):
        desk = desk_with()
        before = (desk.log(), seen(desk.house))
        for command in self.near_misses():
            self.bad_syntax(0, desk.run, command)
        self.same((desk.log(), seen(desk.house)), before)

    def test_numbers(self):
        desk = desk_with(a=edit_to(doc="x"))
        for odd in ("00", "01", "007", "0000", "10000", "00000", "-1", "+1", "1.", "a", "", "1a", "0x1", "1_0", "12345"):
            self.bad_syntax(0, desk.run, "begin " + odd)
            self.bad_syntax(0, desk.run, f"propose {odd} a joe -")
        for right in ("1", "9", "10", "1000", "9999"):
            self.same(desk.run("begin " + right), "none")
            self.same(desk.run(f"propose {right} a joe -"), "error BadValue")
        self.same(desk.run("begin 0"), "none")
        self.same(desk.run("propose 0 a joe -"), "ok")

    def test_given(self):
        desk = desk_with(a=edit_to(doc="x"))
        for odd in ("ann,", ",ann", ",", "ann,,bob", "--", "-,ann", "ann,-", "Ann", "ann,Bob", "ann;bob", "1,2", ""):
            self.bad_syntax(0, desk.run, "propose 0 a joe " + odd)
        for wrong in ("bob,ann", "ann,ann", "a,b,c,d,e,f,g,h,i"):
            self.same(desk.run("propose 0 a joe " + wrong), "error BadValue")
        for right in ("-", "ann", "ann,bob", "a,b,c,d,e,f,g,h"):
            self.same(desk.run("propose 0 a joe " + right), "ok")
        self.same([desk.run("land") for _ in range(4)], ["landed 1", "landed 2", "landed 3", "landed 4"])
        self.same([proposal[3] for _, proposal in desk.house.landings], [(), ("ann",), ("ann", "bob"), tuple("abcdefgh")])

    def test_report(self):
        desk = desk_with()
        for odd in ("sick", "Well", "-", "wel", "well,ill", ""):
            self.bad_syntax(0, desk.run, "report north " + odd)
        self.same(desk.run("report north well"), "none")


class HouseTest(Asking, unittest.TestCase):

    def test_start(self):
        desk = desk_with(False, other=Tree(), edit=(), package=PACKAGES[0], bad="tree\nfile a\n", odd="tree\nfile b\n|\nfile a\n|\n")
        self.same(desk.house, None)
        self.same(desk.run("start tree"), "ok")
        house = desk.house
        self.assertIsInstance(house, House)
        self.same(seen(house), seen(House(TREE)))
        for name, said in (("edit", "BadValue"), ("package", "BadValue"), ("bad", "BadSyntax"), ("odd", "BadValue")):
            self.same(desk.run("start " + name), "error " + said)
        for more, said in (
            ({"set_all": "?"}, "BadFile"), ({"pack_goals": "need a 1 1"}, "NoSolution"), ({"app_main": "walk"}, "BadValue"),
        ):
            desk.run("line wrong ")
            desk.run("clear wrong")
            put(desk, "wrong", printed(tree_with(FILES, **more)))
            self.same(desk.run("start wrong"), "error " + said)
        self.assertIs(desk.house, house)
        desk.run("clear wrong")
        self.same(desk.run("start wrong"), "error BadSyntax")
        self.same(desk.run("start other"), "ok")
        self.assertIsNot(desk.house, house)
        self.same(desk.house.history, (Tree(),))
        self.same(seen(house), seen(House(TREE)))

    def test_no_house(self):
        desk = desk_with(False, bad="?\n")
        for command in (
            "pack bad", "pack tree", "propose 0 bad joe -", "propose 9 tree joe b,a", "land", "release", "begin 0", "step",
            "report north well", "report north ill", "halt", "lost", "cut north", "runs north", "work", "failing north",
            "bad north fine",
        ):
            self.same(desk.run(command), "error NoHouse")
        # What is not known comes first, and what is begun or shown needs no house.
        for command in ("pack none", "propose 9 none joe b,a", "show none"):
            self.same(desk.run(command), "error Unknown")
        self.same(desk.run("start bad"), "error BadSyntax")
        self.same(desk.run("show bad"), "?\n")
        self.same(desk.run("clear bad"), "ok")
        self.same(desk.house, None)

    def test_pack(self):
        desk = desk_with(lib=PACKAGES[0], edit=(), bad="package lib 1\ncontent\n", odd="package a 1\nneed c 1 1\nneed b 1 1\ncontent\n|\n")
        self.same(desk.run("pack lib"), "ok")
        self.same(desk.run("pack lib"), "known")
        self.same(desk.house.registry, PACKAGES[:1])
        for name, said in (("tree", "BadValue"), ("edit", "BadValue"), ("bad", "BadSyntax"), ("odd", "BadValue")):
            self.same(desk.run("pack " + name), "error " + said)
        for at in range(29):
            desk.run("clear lib")
            put(desk, "lib", printed((f"a{at:02}", 1, (), "")))
            self.same(desk.run("pack lib"), "ok")
        self.same(desk.run("pack lib"), "known")
        desk.run("clear lib")
        put(desk, "lib", printed(("zoo", 1, (), "")))
        self.same(desk.run("pack lib"), "full")

    def test_propose_and_land(self):
        desk = desk_with(
            one=edit_to(app_main="run 1"), two=edit_to(app_main="run 2"), wrong=edit_to(set_all="\n?"),
            walk=edit_to(app_main="walk"), goal=edit_to(pack_goals="need a 1 1"), package=PACKAGES[0], bad="edit\nput a\n",
            odd="edit\ndrop b\ndrop a\n", many=tuple(("put", f"f{at:02}", "") for at in range(56)),
        )
        self.same(desk.run("land"), "none")
        row = (("one", "ann"), ("two", "ann"), ("one", "-"), ("wrong", "-"), ("walk", "ann,bob"), ("goal", "-"))
        for name, given in row:
            self.same(desk.run(f"propose 0 {name} joe {given}"), "ok")
        self.same([desk.run("land") for _ in range(7)], [
            "landed 1", "clash app/main", "landed 2", "file set/all 2", "clash app/main", "packs", "none",
        ])
        for name, given in (("two", "-"), ("walk", "bob")):
            self.same(desk.run(f"propose 2 {name} joe {given}"), "ok")
        self.same([desk.run("land") for _ in range(3)], ["own 0 1", "test north fine", "none"])
        for name, said in (
            ("tree", "BadValue"), ("package", "BadValue"), ("bad", "BadSyntax"), ("odd", "BadValue"), ("many", "BadValue"),
        ):
            self.same(desk.run(f"propose 0 {name} joe -"), "error " + said)
        # Parsing comes first.
        self.same(desk.run("propose 9 bad joe b,a"), "error BadSyntax")
        self.same(desk.run("propose 9 none joe b,a"), "error Unknown")
        self.same(desk.run("propose 3 one joe -"), "error BadValue")
        for _ in range(12):
            self.same(desk.run("propose 0 one joe -"), "ok")
        self.same(desk.run("propose 0 one joe -"), "full")
        self.same(desk.run("propose 3 one joe -"), "error BadValue")
        self.same(desk.run("work"), str(desk.house.work))
        self.assertEqual(desk.house.work, 6)

    def test_rolling_out(self):
        desk = desk_with()
        self.same([desk.run(command) for command in (
            "begin 0", "step", "halt", "release", "begin 1", "begin 0", "begin 0", "begin 1", "runs north", "step",
            "cut north", "step", "step", "runs north", "step", "report south well", "report north well", "lost", "step",
            "report north well", "step", "step", "report south ill", "report south ill", "step", "step", "step", "runs north",
            "halt", "begin 0", "step", "halt", "step",
        )], [
            "none", "none", "none", "0", "none", "ok", "open", "none", "none", "fetch north",
            "ok", "fetch north", "switch north", "0", "wait north", "none", "ok", "ok", "wait north",
            "ok", "fetch south", "switch south", "ok", "none", "switch south", "switch north", "back", "none",
            "none", "ok", "fetch north", "ok", "back",
        ])

    def test_forty_releases(self):
        desk = desk_with()
        self.same([desk.run("release") for _ in range(41)], [str(at) for at in range(40)] + ["full"])

    def test_runs_and_work(self):
        desk = desk_with(one=edit_to(app_main="run 1"))
        self.same((desk.run("runs north"), desk.run("runs zoo"), desk.run("work")), ("none", "none", "0"))
        desk.run("propose 0 one joe ann")
        desk.run("land")
        self.same(desk.run("work"), "4")
        for command in ("release", "begin 0", "step", "step"):
            desk.run(command)
        self.same((desk.run("runs north"), desk.run("runs south")), ("0", "none"))

    def test_failing_and_bad(self):
        lib = ended("test lib = same version lib lit 1", "test land = has set color lit e", "test two = same version lib lit 1")
        desk = desk_with(
            lib=("lib", 1, (), "one"), two=("lib", 2, (), "two"), goal=edit_to(pack_goals="need lib 1 9\n", build_b=lib),
            none=edit_to(fleet_places="place west 1\n"),
        )
        self.same(desk.run("failing north"), "none")
        self.same(desk.run("failing west"), "error BadValue")
        for name, said in (("fine", "none"), ("out", "none"), ("lib", "0"), ("zoo", "0")):
            self.same(desk.run("bad north " + name), said)
        self.same(desk.run("bad west fine"), "0")
        desk.run("pack lib")
        desk.run("propose 0 goal joe -")
        self.same(desk.run("land"), "landed 1")
        self.same((desk.run("failing north"), desk.run("bad north lib")), ("none", "none"))
        # With the registry as it is now, not with that with which the tree landed.
        self.same(desk.run("pack two"), "ok")
        self.same((desk.run("failing north"), desk.run("failing south")), ("lib,two", "lib,two"))
        self.same((desk.run("bad north lib"), desk.run("bad south two"), desk.run("bad north fine")), ("0", "0", "none"))
        self.same(desk.run("propose 1 none joe -"), "ok")
        self.same(desk.run("land"), "test west lib")
        self.same(desk.run("failing west"), "error BadValue")

    def test_bad_from_a_later_tree_on(self):
        desk = desk_with(one=edit_to(build_b="target more = file app/main\n"), two=edit_to(app_main=None, build_all=None))
        for at, name in enumerate(("one", "two")):
            desk.run(f"propose {at} {name} joe ann")
            self.same(desk.run("land"), f"landed {at + 1}")
        self.same(desk.run("bad north fine"), "2")
        self.same(desk.run("bad south more"), "2")
        self.same(desk.run("bad south none"), "0")

    def test_what_is_refused_changes_nothing_but_the_log(self):
        desk = desk_with(lib=PACKAGES[0], one=edit_to(app_main="run 1"), bad="?\n", doc=edit_to(doc=""))
        for command in ("pack lib", "propose 0 doc joe -", "release", "begin 0", "step", "step", "report north well"):
            desk.run(command)
        before, log = seen(desk.house), desk.log()
        house = desk.house
        row = (
            "show none", "start none", "start bad", "start lib", "pack bad", "pack one", "propose 0 bad joe -",
            "propose 1 one joe -", "propose 0 one joe b,a", "propose 0 lib joe -", "failing zoo", "clear none",
        )
        for command in row:
            self.assertTrue(desk.run(command).startswith("error "))
        self.same(seen(desk.house), before)
        self.assertIs(desk.house, house)
        self.same(desk.log(), log + ended(*row))
        self.same(desk.run("show bad"), "?\n")
        self.same(desk.run("show none"), "error Unknown")

    def test_acts_that_are_done_directly_stand_in_no_log(self):
        desk = desk_with()
        log = desk.log()
        desk.house.release()
        self.same(desk.log(), log)
        self.same(desk.run("begin 0"), "ok")

    def test_desks_share_nothing(self):
        one, two = Desk(), Desk()
        put(one, "tree", printed(TREE))
        one.run("start tree")
        self.same((two.log(), two.house, two.run("show tree")), ("", None, "error Unknown"))
        again = desk_with()
        again.run("release")
        self.same(one.house.releases, ())


class ReplayedTest(Asking, unittest.TestCase):

    def test_a_log(self):
        desk = desk_with(lib=PACKAGES[0], one=edit_to(app_main="run 1"), bad="?\n")
        for command in (
            "pack lib", "propose 0 one joe ann", "show none", "start bad", "land", "release", "begin 0", "step", "step", "halt",
        ):
            desk.run(command)
        again = Desk.replayed(desk.log())
        self.assertIs(type(again), Desk)
        self.same(again.log(), desk.log())
        self.same(seen(again.house), seen(desk.house))
        self.assertIsNot(again.house, desk.house)
        for command in ("step", "step", "show one", "show bad", "runs north", "work", "show none"):
            self.same(again.run(command), desk.run(command))
        self.same(seen(Desk.replayed(log=desk.log()).house), seen(desk.house))
        self.same(Desk().replayed(desk.log()).log(), desk.log())

    def test_the_empty_log(self):
        desk = Desk.replayed("")
        self.same((desk.log(), desk.house), ("", None))
        self.same(Desk().log(), "")

    def test_wrong_lines(self):
        lines = ["line a b", "show a", "start a", "land", "work"]
        for at in range(len(lines) + 1):
            for wrong in ("", "?", "line a", "land ", "begin 01", "report a sick", " land"):
                changed = lines[:at] + [wrong] + lines[at:]
                self.bad_syntax(at, Desk.replayed, ended(*changed))
                self.bad_syntax(at, Desk.replayed, ended(*changed) + "land")
                self.bad_syntax(at, Desk.replayed, ended(*changed, "?"))
        self.same(Desk.replayed(ended(*lines)).log(), ended(*lines))
        self.bad_syntax(0, Desk.replayed, "\n")
        self.bad_syntax(1, Desk.replayed, "land\n\n")

    def test_no_line_feed_at_the_end(self):
        self.bad_syntax(0, Desk.replayed, "land")
        self.bad_syntax(0, Desk.replayed, "?")
        self.bad_syntax(2, Desk.replayed, "land\nstep\nhalt")
        self.bad_syntax(2, Desk.replayed, "land\nstep\n ")
        self.bad_syntax(1, Desk.replayed, "land\n?\nhalt")

    def test_wrong_values(self):
        for value in ODD + [(), [], ["land\n"], Desk()]:
            if not isinstance(value, str):
                self.bad_value(1, Desk.replayed, value)
            elif value != "":
                self.bad_syntax(0, Desk.replayed, value)


class DrawnTest(Asking, unittest.TestCase):

    NAMES = ("tree", "edita", "editb", "editc", "packa", "packb")

    def test_desks_and_houses_led_alike(self):
        chance = random.Random(80)
        said = {}
        for _ in range(30):
            desk, other = Desk(), Desk()
            house = None
            for _ in range(160):
                for command, act in self.drawn(chance, desk):
                    text = parsed(desk, command)
                    answer = desk.run(command)
                    self.same(other.run(command), answer)
                    if act == "start" and answer == "ok":
                        house = House(text)
                    elif act not in (None, "start") and house is not None and answer != "error Unknown":
                        self.same(answer_of(house, act, text), answer)
                    word = answer.split(" ")[0]
                    said[word] = said.get(word, 0) + 1
                self.same(seen(house), seen(desk.house))
            self.same(other.log(), desk.log())
            again = Desk.replayed(desk.log())
            self.same(again.log(), desk.log())
            self.same(seen(again.house), seen(desk.house))
        wanted = "ok error landed clash own test file fetch switch wait done back none known open".split(" ")
        self.assertLessEqual(set(wanted), set(said))

    def drawn(self, chance, desk):
        """Return pairs (command, act): the act on the house that it does, "start", or None."""
        if chance.random() < 0.25:
            return self.text_drawn(chance)
        words = ("start", "pack", "land", "release", "begin", "halt", "lost", "cut", "clear")
        word = chance.choice(words + ("step",) * 8 + ("propose",) * 6)
        if desk.house is None and chance.random() < 0.5:
            word = "start"
        if word == "start":
            started = ("start " + chance.choice(("tree", "tree", "edita")), "start")
            return [started] * (chance.random() < 0.1 or desk.house is None)
        if word == "clear":
            return [("clear " + chance.choice(self.NAMES), None)] * (chance.random() < 0.2)
        if word == "pack":
            return [("pack " + chance.choice(("packa", "packb", "packa", "tree")), ("pack", ("text",)))]
        if word == "propose":
            number = chance.choice((0, 0, 0, 0, 1, 2))
            given = chance.choice((("ann", "bob"), ("ann", "bob", "eve"), ("ann", "bob", "eve"), (), ("bob", "ann")))
            name = chance.choice(("edita", "editb", "editc", "edita", "editb", "packa"))
            command = f"propose {number} {name} joe {','.join(given) or '-'}"
            return [(command, ("propose", (number, "text", "joe", given))), ("land", ("land", ()))]
        if word == "begin":
            number = chance.choice((0, 0, 1, 2))
            return [(f"begin {number}", ("begin", (number,)))]
        place = chance.choice(("north", "south", "east", "west"))
        if word == "cut":
            return [(f"cut {place}", ("cut", (place,)))]
        if word == "step":
            # Whoever is waited for is told well, mostly.
            health = "well" if chance.random() < 0.9 else "ill"
            rows = desk.house.rollout[2] if desk.house is not None and desk.house.rollout is not None else ()
            places = [row[0] for row in rows if row[2] is not None and not row[4]] or [place]
            return [("step", ("step", ())), (f"report {places[0]} {health}", ("report", (places[0], health)))]
        return [(word, (word, ()))]

    def text_drawn(self, chance):
        """Return the commands that put another text in the place of one."""
        name = chance.choice(self.NAMES)
        value = {"t": first_of, "e": edit_of, "p": lambda chance: chance.choice(PACKAGES)}[name[0]](chance)
        lines = ["?"] if chance.random() < 0.05 else printed(value)[:-1].split("\n")
        return [(command, None) for command in [f"line {name} ", f"clear {name}"] + [f"line {name} {line}" for line in lines]]


def parsed(desk, command):
    """Return what the text tells that a command names, or the error that parsing it makes, or None."""
    parts = command.split(" ")
    name = {"start": 1, "pack": 1, "propose": 2}.get(parts[0])
    if name is None:
        return None
    lines = []
    for line in desk.log().split("\n"):
        word, _, more = line.partition(" ")
        if word == "line" and more.split(" ")[0] == parts[name]:
            lines.append(more.partition(" ")[2] + "\n")
        elif line == f"clear {parts[name]}":
            lines = []
    try:
        return parse("".join(lines))
    except HouseError as wrong:
        return wrong


def answer_of(house, act, text):
    """Do an act on a house directly; return what a desk has to say."""
    name, values = act
    if "text" in values and isinstance(text, HouseError):
        return "error " + type(text).__name__
    try:
        return getattr(house, name)(*[text if value == "text" else value for value in values])
    except HouseError as wrong:
        return "error " + type(wrong).__name__


if __name__ == "__main__":
    unittest.main()
