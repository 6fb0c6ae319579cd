"""Houses: proposals land, releases are cut of what landed, and places run them."""

from releasehouse.building import built, tested, traces
from releasehouse.errors import BadFile, BadValue
from releasehouse.files import check, place_named, places, rules
from releasehouse.landing import MOST_TREES, tried
from releasehouse.owners import is_given
from releasehouse.packages import MOST_PACKAGES, check_registry, is_package
from releasehouse.rollouts import Rollout, shown, stepped, turn_back
from releasehouse.stores import Store
from releasehouse.trees import check_tree, tree_made
from releasehouse.values import is_integer, is_word, plain
from releasehouse.worlds import source_of

MOST_WAITING = 12
MOST_RELEASES = 40


class House:
    """A house: its history, what waits, its releases, and what its places run."""

    def __init__(self, tree, registry=()):
        check_tree(tree, 1)
        check_registry(registry, 2)
        wrong = check(tree)
        if wrong is not None:
            raise BadFile(wrong[0], wrong[1])
        # What these tests look at is not kept: the store is empty at first.
        failed, _ = tested(source_of(tree, registry), places(tree), Store())
        if failed is not None:
            raise BadValue(1)
        self._history = [tree]
        self._registry = plain(registry)
        # For each tree of the history the registry with which it landed, or with which the house began.
        self._registries = [self._registry]
        self._proposals_landed = []
        self._row = []
        self._releases = []
        self._store = Store()
        self._work = 0
        self._runs = {}
        self._rollout = None

    @property
    def history(self):
        """The tuple of the trees, the first one and each that landed."""
        return tuple(self._history)

    @property
    def registry(self):
        """The registry as it is now."""
        return self._registry

    @property
    def landings(self):
        """The tuple of the pairs (registry, proposal) of the proposals that landed."""
        return tuple(zip(self._registries[1:], self._proposals_landed))

    @property
    def waiting(self):
        """How many proposals wait."""
        return len(self._row)

    @property
    def work(self):
        """How many names have been fresh in the tests of landings."""
        return self._work

    @property
    def releases(self):
        """The tuple of the pairs (number of the tree, registry) of the releases."""
        return tuple([(at, self._registries[at]) for at in self._releases])

    @property
    def rollout(self):
        """None, or the triple (release, way, places) of the rollout that is open."""
        return None if self._rollout is None else shown(self._rollout, self._runs)

    def pack(self, package):
        """Add a package to the registry: "known", "full" or "ok"."""
        if not is_package(package):
            raise BadValue(1)
        versions = [(name, version) for name, version, _, _ in self._registry]
        if (package[0], package[1]) in versions:
            return "known"
        if len(versions) == MOST_PACKAGES:
            return "full"
        packages = self._registry + (plain(package),)
        self._registry = tuple(sorted(packages, key=lambda row: (row[0], row[1])))
        return "ok"

    def propose(self, base, edit, author, given):
        """Let a proposal wait that was made on the tree with this number: "full" or "ok"."""
        if not is_integer(base) or not 0 <= base < len(self._history):
            raise BadValue(1)
        tree = self._history[base]
        if tree_made(tree, edit) is None:
            raise BadValue(2)
        if not is_word(author):
            raise BadValue(3)
        if not is_given(given):
            raise BadValue(4)
        if len(self._row) == MOST_WAITING or len(self._history) + len(self._row) == MOST_TREES:
            return "full"
        self._row.append((tree, plain(edit), author, plain(given)))
        return "ok"

    def land(self):
        """Land or bounce the proposal that has waited longest; returns the word and what it tells, or "none"."""
        if not self._row:
            return "none"
        proposal = self._row.pop(0)
        answer, count = tried(self._history[-1], self._registry, proposal, self._store)
        self._work += count
        word, more = answer
        if word == "landed":
            self._history.append(more)
            self._registries.append(self._registry)
            self._proposals_landed.append(proposal)
            return f"landed {len(self._history) - 1}"
        if word == "packs" or more == ():
            return word
        if word == "clash":
            return "clash " + ",".join(more)
        return f"{word} {more[0]} {more[1]}"

    def release(self):
        """Cut a release of the newest tree; returns its number, or "full"."""
        if len(self._releases) == MOST_RELEASES:
            return "full"
        self._releases.append(len(self._history) - 1)
        return str(len(self._releases) - 1)

    def begin(self, number):
        """Begin to roll out the release with this number: "none", "open" or "ok"."""
        if not is_integer(number):
            raise BadValue(1)
        if not 0 <= number < len(self._releases):
            return "none"
        if self._rollout is not None:
            return "open"
        tree = self._history[self._releases[number]]
        self._rollout = Rollout(number, places(tree), self._runs)
        return "ok"

    def step(self):
        """Do the next step of the rollout; returns what was done, or "none"."""
        if self._rollout is None:
            return "none"
        said = stepped(self._rollout, self._runs)
        if said in ("done", "back"):
            self._rollout = None
        return said

    def report(self, place, word):
        """Tell that a place with the release is well or ill: "none" or "ok"."""
        if not is_word(place):
            raise BadValue(1)
        if word not in ("well", "ill"):
            raise BadValue(2)
        rollout = self._rollout
        if rollout is None or not rollout.outward or self._runs.get(place) != rollout.number:
            return "none"
        if word == "well":
            rollout.well[place] = True
        else:
            turn_back(rollout)
        return "ok"

    def halt(self):
        """Let the rollout that goes out go back: "none" or "ok"."""
        if self._rollout is None or not self._rollout.outward:
            return "none"
        turn_back(self._rollout)
        return "ok"

    def lost(self):
        """Forget which places were told well: "ok"."""
        if self._rollout is not None:
            self._rollout.well.clear()
        return "ok"

    def cut(self, place):
        """Take away what was fetched at a place: "ok"."""
        if not is_word(place):
            raise BadValue(1)
        if self._rollout is not None:
            self._rollout.fetched.pop(place, None)
        return "ok"

    def runs(self, place):
        """Return the number of the release that the place runs, or None."""
        if not is_word(place):
            raise BadValue(1)
        return self._runs.get(place)

    def running(self, place):
        """Return the pairs (name, result) of all targets that the place runs, or None."""
        number = self.runs(place)
        if number is None:
            return None
        tree, registry, _, facts = self._run_at(number, place)
        targets = [name for word, name, _ in rules(tree) if word == "target"]
        return tuple([pair for pair in built(tree, facts, registry) if pair[0] in targets])

    def paper(self, place):
        """Return (number of the tree, registry, facts, paper) of what the place runs, or None."""
        number = self.runs(place)
        if number is None:
            return None
        tree, registry, _, facts = self._run_at(number, place)
        return (self._releases[number], registry, facts, traces(tree, facts, registry))

    def wave(self, place):
        """Return the wave of the place in the tree of what it runs, or None."""
        number = self.runs(place)
        return None if number is None else self._run_at(number, place)[2]

    def _run_at(self, number, place):
        """Return (tree, registry, wave, facts) of a release at a place of its tree."""
        at = self._releases[number]
        tree = self._history[at]
        _, wave, facts = place_named(tree, place)
        return (tree, self._registries[at], wave, facts)
