"""What a change of a tree reaches, and what hangs on a path."""

from releasehouse.building import traced
from releasehouse.errors import BadValue
from releasehouse.packages import check_registry
from releasehouse.stores import Store
from releasehouse.trees import check_tree
from releasehouse.values import is_ascending, is_path, is_sequence
from releasehouse.worlds import check_facts, told_of, world_of


def unturned(old, new, facts, registry):
    """Return the names of the new tree whose traces the old tree has, too."""
    before, now = _worlds(old, new, facts, registry)
    had = _words_and_traces(before)
    has = _words_and_traces(now)
    return tuple([name for name in has if had.get(name) == has[name]])


def reach(old, new, facts, registry):
    """Return the names of the new tree that are not unturned."""
    left = unturned(old, new, facts, registry)
    row, _, _ = told_of(new)
    return tuple([name for _, name, _ in row if name not in left])


def why(tree, facts, registry, name, paths):
    """Tell whether one of the paths is read for the name, or for a target that it reads."""
    world = world_of(tree, facts, registry)
    if name not in [rule[1] for rule in world.row]:
        raise BadValue(4)
    if not is_sequence(paths) or not all([is_path(path) for path in paths]) or not is_ascending(paths):
        raise BadValue(5)
    for word, thing in _pairs_read(world, name):
        if any([_is_read(word, thing, path) for path in paths]):
            return True
    return False


def _worlds(old, new, facts, registry):
    """Return the worlds of both trees, with all errors that the four arguments can make."""
    check_tree(old, 1)
    check_tree(new, 2)
    check_facts(facts, 3)
    check_registry(registry, 4)
    # Wrong files of both come ahead of goals of either that have no solution.
    told_of(old)
    told_of(new)
    return (world_of(old, facts, registry), world_of(new, facts, registry))


def _words_and_traces(world):
    """Return for each name of a world, in the order of its row, its word and its trace."""
    pairs, _ = traced(world, Store())
    trace_of = dict(pairs)
    return {name: (word, trace_of[name]) for word, name, _ in world.row}


def _pairs_read(world, name):
    """Return the pairs (word, name) of all readings for a name, and for targets that it reads."""
    traces_read, _ = traced(world, Store())
    trace_of = dict(traces_read)
    met = {name: True}
    waiting = [name]
    pairs = []
    while waiting:
        trace = trace_of[waiting.pop()]
        for word, thing, _ in trace[1]:
            pairs.append((word, thing))
            if word == "dep" and thing not in met:
                met[thing] = True
                waiting.append(thing)
    return pairs


def _is_read(word, name, path):
    """Tell whether a reading looks at the path, whether or not there is such a file."""
    if word == "file":
        return path == name
    if word in ("each", "names"):
        return path.startswith(name + "/")
    if word == "set":
        return path.startswith("set/")
    return word in ("pack", "version") and path == "pack/goals"
