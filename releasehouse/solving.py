"""The search for the best solution of goals, or for a paper that there is none.

The search picks a version for one asked name after the other. Where nothing
is left it also tells which picks are to blame, so that a pick that is not to
blame is not tried with its other versions: the paper fits without it.
"""

from releasehouse.asking import asked_with, first_against, needs_by_name, versions_left


class Search:
    """The packages that can be picked, and the best solution found so far."""

    def __init__(self, registry):
        self.packs = needs_by_name(registry)
        self.names = sorted(self.packs)
        self.best = None


def best_or_paper(registry, wanted):
    """Return (solution, None) with the best solution for these goals, or (None, paper)."""
    search = Search(registry)
    paper, _ = _explored(search, asked_with({}, wanted, None), {})
    if search.best is None:
        return (None, paper)
    return (tuple([(name, search.best[name]) for name in sorted(search.best)]), None)


def _explored(search, asked, picked):
    """Find the best solution with these picks, if it is better than the best one so far.

    Returns (paper, blamed): blamed has the names of picks with which nothing
    better remains; paper refutes them, as long as no solution was found.
    """
    if search.best is not None and not _may_be_better(search, asked, picked):
        return (None, {name: True for name in picked})
    name = _next_name(search.packs, asked, picked)
    if name is None:
        search.best = picked
        return (None, {name: True for name in picked})
    blamed = _askers(search.packs, asked, name)
    branches = []
    for version in reversed(versions_left(search.packs, asked, name)):
        paper, more = _tried(search, asked, picked, (name, version))
        if name not in more:
            return (paper, more)
        blamed.update(more)
        branches.append((version, paper))
    blamed.pop(name, None)
    return (("pick", name, tuple(reversed(branches))), blamed)


def _tried(search, asked, picked, pair):
    """Pick one pair more, and explore unless it clashes; returns as _explored does."""
    name, version = pair
    needs = search.packs[name][version]
    now = {**picked, name: version}
    for other, low, high in needs:
        if other in now and not low <= now[other] <= high:
            return (("clash", other), {name: True, other: True})
    return _explored(search, asked_with(asked, needs, name), now)


def _next_name(packs, asked, picked):
    """Return the name to pick next: one without a choice, or else the least; or None."""
    rows = []
    for name in asked:
        if name not in picked:
            rows.append((min(len(versions_left(packs, asked, name)), 2), name))
    return min(rows)[1] if rows else None


def _askers(packs, asked, name):
    """Return the picks by which the name is asked, and versions of it are left out."""
    spans = asked[name]
    found = [spans[0]]
    for version in packs.get(name, {}):
        span = first_against(spans, version)
        if span is not None:
            found.append(span)
    return {span[2]: True for span in found if span[2] is not None}


def _may_be_better(search, asked, picked):
    """Tell whether the greatest versions that can still come are better than the best."""
    highest = _highest(search.packs, asked, picked)
    for name in search.names:
        most = highest.get(name, 0)
        least = search.best.get(name, 0)
        if most != least:
            return most > least
    return False


def _highest(packs, asked, picked):
    """Return for each name that can still be in a solution its greatest version that can."""
    highest = {}
    waiting = list(asked)
    while waiting:
        name = waiting.pop()
        if name not in highest:
            highest[name] = 0
            for version in _versions_open(packs, asked, picked, name):
                highest[name] = version
                waiting.extend([need[0] for need in packs[name][version]])
    return highest


def _versions_open(packs, asked, picked, name):
    """Return the versions of a name, ascending, that what is asked and picked allows."""
    if name in picked:
        return [picked[name]]
    spans = asked.get(name, ())
    found = []
    for version, needs in packs.get(name, {}).items():
        if first_against(spans, version) is None and _suits(needs, picked):
            found.append(version)
    return found


def _suits(needs, picked):
    """Tell whether the needs allow all that is picked."""
    return all([name not in picked or low <= picked[name] <= high for name, low, high in needs])
