"""Worlds: what a tree, facts and a registry give to read."""

from releasehouse.errors import BadValue, NoSolution
from releasehouse.looking import pairs_of
from releasehouse.packages import check_registry, solved
from releasehouse.rows import read_goals, read_rules
from releasehouse.settings import read_settings, settle
from releasehouse.trees import check_tree
from releasehouse.values import is_facts


class Source:
    """The row of rules of a tree, and what there is to read for it, whatever the facts."""

    def __init__(self, contents, row, settings, chosen):
        self.contents = contents
        self.row = row
        self.settings = settings
        self.chosen = chosen


class World:
    """The row of rules of a tree, and what their readings find."""

    def __init__(self, contents, row, items_of, chosen):
        self.contents = contents
        self.row = row
        self.items_of = items_of
        self.chosen = chosen


def check_facts(value, at):
    """Raise BadValue with this place unless the value is facts."""
    if not is_facts(value):
        raise BadValue(at)


def told_of(tree):
    """Return (row of rules, goals, settings); BadFile for the first wrong line."""
    # In the order of their paths, so the first error is the least one.
    row = read_rules(tree.files)
    wanted = read_goals(tree.files)
    return (row, wanted, read_settings(tree.files))


def world_of(tree, facts, registry):
    """Return the world of a tree, with all errors that the three arguments can make."""
    check_tree(tree, 1)
    check_facts(facts, 2)
    check_registry(registry, 3)
    return world_at(source_of(tree, registry), facts)


def world_at(source, facts):
    """Return the world that a source makes with these facts."""
    return World(source.contents, source.row, settle(source.settings, facts), source.chosen)


def source_of(tree, registry):
    """Return the source of a tree; BadFile for its first wrong line, or NoSolution."""
    row, wanted, settings = told_of(tree)
    word, more = solved(registry, wanted)
    if word == "none":
        raise NoSolution(more)
    versions = dict(more)
    chosen = {}
    for name, version, _, content in registry:
        if versions.get(name) == version:
            chosen[name] = (version, content)
    return Source(dict(tree.files), row, settings, chosen)


def values_at(world, expression, results):
    """Return the value of each reading that an expression can do.

    Results has those of the targets ahead of it, by their names.
    """
    return {(word, name): _value_at(world, word, name, results) for word, name in pairs_of(expression)}


def _value_at(world, word, name, results):
    """Return what one reading finds."""
    if word == "file":
        return world.contents.get(name)
    if word == "each":
        return tuple([(path, world.contents[path]) for path in _paths_below(world, name)])
    if word == "names":
        return tuple(_paths_below(world, name))
    if word == "set":
        return world.items_of.get(name)
    if word == "dep":
        return results[name]
    version, content = world.chosen.get(name, (None, None))
    return version if word == "version" else content


def _paths_below(world, name):
    """Return the paths of all files that begin with a path and a slash."""
    return [path for path in world.contents if path.startswith(name + "/")]
