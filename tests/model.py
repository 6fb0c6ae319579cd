"""What the document says of landing and of houses, written a second time and in another way.

It is plain and slow, and built from what files, packages, building and owners tell.
"""

from releasehouse.building import built, failing, rebuilt
from releasehouse.files import check, goals, places, rules
from releasehouse.owners import approvals
from releasehouse.packages import solved
from releasehouse.trees import Tree


def made_of(tree, edit):
    """Return the dict of the files that an edit makes of a tree."""
    files = dict(tree.files)
    for word, path, *content in edit:
        files.pop(path, None)
        if word == "put":
            files[path] = content[0]
    return files


def landing_again(head, registry, proposal):
    """Return what `landing` has to return, but for the paper."""
    base, edit, author, given = proposal
    was, ours, theirs = dict(base.files), dict(head.files), made_of(base, edit)
    files = {}
    clashes = []
    for path in {**was, **ours, **theirs}:
        changed_here = ours.get(path) != was.get(path)
        changed_there = theirs.get(path) != was.get(path)
        if changed_here and changed_there and ours.get(path) != theirs.get(path):
            clashes.append(path)
        files[path] = theirs.get(path) if changed_there else ours.get(path)
    files = {path: content for path, content in files.items() if content is not None}
    if clashes or len(files) > 60:
        return ("clash", tuple(sorted(clashes)))
    tree = Tree(tuple(sorted(files.items())))
    if check(tree) is not None:
        return ("file", check(tree))
    line = line_missed(head, tree, author, given)
    if line is not None:
        return ("own", line)
    word, more = solved(registry, goals(tree))
    if word == "none":
        return ("packs", more)
    for place, _, facts in places(tree):
        for name in failing(tree, facts, registry):
            return ("test", (place, name))
    return ("landed", tree)


def line_missed(head, tree, author, given):
    """Return the first (side, line) that is asked for a change and not fulfilled, or None."""
    paths = [path for path in {**dict(head.files), **dict(tree.files)}
             if dict(head.files).get(path) != dict(tree.files).get(path)]
    only_own = Tree(tuple(pair for pair in head.files if pair[0] == "own/rules"))
    for side, asked in ((0, only_own), (1, tree)):
        if check(asked) is None:
            missed = []
            for path in paths:
                for line, count, names in approvals(asked, path):
                    if len(set(names) & set(given) - {author}) < count:
                        missed.append(line)
            if missed:
                return (side, min(missed))
    return None


class Model:
    """A house, led by the same acts."""

    def __init__(self, tree, registry=()):
        self.trees = [tree]
        self.registry = registry
        self.registries = [registry]
        self.landings = []
        self.row = []
        self.store = ()
        self.work = 0
        self.cut_of = []
        # For each place that is known: [runs, fetched].
        self.seats = {}
        self.out = None

    # Acts

    def pack(self, package):
        if package[:2] in [other[:2] for other in self.registry]:
            return "known"
        if len(self.registry) >= 30:
            return "full"
        self.registry = tuple(sorted(self.registry + (package,)))
        return "ok"

    def propose(self, base, edit, author, given):
        if len(self.row) >= 12 or len(self.row) + len(self.trees) >= 40:
            return "full"
        self.row.append((self.trees[base], edit, author, given))
        return "ok"

    def land(self):
        if not self.row:
            return "none"
        proposal, *self.row = self.row
        word, more = landing_again(self.trees[-1], self.registry, proposal)
        if word in ("test", "landed"):
            self.look_at(Tree(more.files) if word == "landed" else self.merged_of(proposal), more)
        if word == "landed":
            self.trees.append(more)
            self.registries.append(self.registry)
            self.landings.append((self.registry, proposal))
        told = {
            "clash": lambda: " ".join(["clash"] + [",".join(more)] * bool(more)),
            "file": lambda: f"file {more[0]} {more[1]}",
            "own": lambda: f"own {more[0]} {more[1]}",
            "packs": lambda: "packs",
            "test": lambda: f"test {more[0]} {more[1]}",
            "landed": lambda: f"landed {len(self.trees) - 1}",
        }
        return told[word]()

    def merged_of(self, proposal):
        """Return the merged tree of a proposal that does not clash."""
        base, edit, _, _ = proposal
        was, now = dict(base.files), made_of(base, edit)
        files = {**dict(self.trees[-1].files), **{path: text for path, text in now.items() if text != was.get(path)}}
        return Tree(tuple(sorted((path, text) for path, text in files.items() if path in now or path not in was)))

    def look_at(self, tree, more):
        """Do the tests, up to the place that is told."""
        for place, _, facts in places(tree):
            _, fresh, self.store = rebuilt(tree, facts, self.registry, self.store)
            self.work += len(fresh)
            if isinstance(more, tuple) and more[0] == place:
                return

    def release(self):
        if len(self.cut_of) >= 40:
            return "full"
        self.cut_of.append((len(self.trees) - 1, self.registries[-1]))
        return f"{len(self.cut_of) - 1}"

    def begin(self, number):
        if number not in range(len(self.cut_of)):
            return "none"
        if self.out:
            return "open"
        rows = [[name, wave, number] for name, wave, _ in self.places_of(number)]
        named = [row[0] for row in rows]
        rows += [[name, 10, None] for name in sorted(self.seats) if self.runs(name) is not None and name not in named]
        self.out = {"number": number, "way": "out", "rows": rows, "well": set()}
        self.out["ran"] = {row[0]: self.runs(row[0]) for row in rows}
        self.fetch_nothing()
        return "ok"

    def step(self):
        if not self.out:
            return "none"
        if self.out["way"] == "back":
            for name in [row[0] for row in self.out["rows"]][::-1]:
                if self.runs(name) != self.out["ran"][name]:
                    return self.move(name, self.out["ran"][name])
            return self.close("back")
        for wave in range(1, 11):
            rows = [row for row in self.out["rows"] if row[1] == wave]
            unlike = [row for row in rows if self.runs(row[0]) != row[2]]
            unwell = [row for row in rows if row[2] is not None and row[0] not in self.out["well"]]
            if unlike:
                return self.move(unlike[0][0], unlike[0][2])
            if unwell:
                return "wait " + unwell[0][0]
        return self.close("done")

    def move(self, name, wanted):
        seat = self.seats.setdefault(name, [None, None])
        if wanted is None or seat[1] == wanted:
            self.seats[name] = [wanted, None]
            return "switch " + name
        seat[1] = wanted
        return "fetch " + name

    def close(self, word):
        self.out = None
        self.fetch_nothing()
        return word

    def fetch_nothing(self):
        for seat in self.seats.values():
            seat[1] = None

    def report(self, place, word):
        if not self.out or self.out["way"] == "back":
            return "none"
        if place not in [row[0] for row in self.out["rows"] if row[2] is not None]:
            return "none"
        if self.runs(place) != self.out["number"]:
            return "none"
        if word == "well":
            self.out["well"].add(place)
            return "ok"
        return self.halt()

    def halt(self):
        if not self.out or self.out["way"] == "back":
            return "none"
        self.out["way"] = "back"
        self.fetch_nothing()
        return "ok"

    def lost(self):
        if self.out:
            self.out["well"] = set()
        return "ok"

    def cut(self, place):
        if place in self.seats:
            self.seats[place][1] = None
        return "ok"

    # Looks

    def places_of(self, number):
        return places(self.trees[self.cut_of[number][0]])

    def runs(self, place):
        return self.seats.get(place, (None, None))[0]

    def here(self, place):
        """Return (number of the tree, registry, wave, facts) of what runs at a place, or None."""
        number = self.runs(place)
        if number is None:
            return None
        wave, facts = {name: (wave, facts) for name, wave, facts in self.places_of(number)}[place]
        return self.cut_of[number] + (wave, facts)

    def running(self, place):
        here = self.here(place)
        if here is None:
            return None
        tree = self.trees[here[0]]
        results = dict(built(tree, here[3], here[1]))
        return tuple((name, results[name]) for word, name, _ in rules(tree) if word == "target")

    def wave(self, place):
        here = self.here(place)
        return here and here[2]

    def rollout(self):
        if not self.out:
            return None
        rows = []
        for name, _, _ in self.out["rows"]:
            runs, fetched = self.seats.get(name, (None, None))
            rows.append((name, self.out["ran"][name], runs, fetched, name in self.out["well"]))
        return (self.out["number"], self.out["way"], tuple(rows))
