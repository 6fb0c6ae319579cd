"""What the files of a tree tell."""

from releasehouse.errors import BadFile, BadValue
from releasehouse.rows import read_approvals, read_goals, read_places, read_rules
from releasehouse.settings import read_settings, settle
from releasehouse.trees import check_tree
from releasehouse.values import is_facts


def check(tree):
    """Return (path, line) of the first wrong line of the first wrong file, or None."""
    check_tree(tree, 1)
    # In the order of their paths, so the first error is the least one.
    try:
        read_rules(tree.files)
        read_places(tree.files)
        read_approvals(tree.files)
        read_goals(tree.files)
        read_settings(tree.files)
    except BadFile as wrong:
        return (wrong.path, wrong.at)
    return None


def settled(tree, facts):
    """Return the pairs (key, items) that the settings make with these facts."""
    check_tree(tree, 1)
    if not is_facts(facts):
        raise BadValue(2)
    items_of = settle(read_settings(tree.files), facts)
    return tuple([(key, items_of[key]) for key in sorted(items_of)])


def asked_facts(tree):
    """Return the facts that stand in a when of the settings."""
    check_tree(tree, 1)
    facts = [name for word, name, _ in read_settings(tree.files) if word == "when"]
    return tuple(sorted(set(facts)))


def goals(tree):
    """Return the goals (name, low, high), ascending by names."""
    check_tree(tree, 1)
    return read_goals(tree.files)


def rules(tree):
    """Return the row of rules (word, name, expression)."""
    check_tree(tree, 1)
    return read_rules(tree.files)


def places(tree):
    """Return the places (name, wave, facts), ascending by wave, then by name."""
    check_tree(tree, 1)
    return read_places(tree.files)


def place_named(tree, name):
    """Return the place (name, wave, facts) of this name in a tree whose places are right, or None."""
    for place in read_places(tree.files):
        if place[0] == name:
            return place
    return None
