"""Landing: what becomes of proposals, and from which tree on something is bad."""

from releasehouse.building import built, tested
from releasehouse.errors import BadFile, BadValue, NoSolution
from releasehouse.files import check, place_named, places, rules
from releasehouse.looking import passes
from releasehouse.owners import approved_by, is_given
from releasehouse.packages import check_registry, is_registry
from releasehouse.rows import read_approvals
from releasehouse.stores import Store
from releasehouse.trees import Tree, check_tree, merged, touched, tree_made
from releasehouse.values import is_row, is_sequence, is_word
from releasehouse.worlds import source_of

MOST_TREES = 40
MOST_PROPOSALS = 39


def landing(head, registry, proposal):
    """Return (word, more): why the proposal does not land on the head, or ("landed", tree)."""
    check_tree(head, 1)
    check_registry(registry, 2)
    if not is_proposal(proposal):
        raise BadValue(3)
    answer, _ = tried(head, registry, proposal, Store())
    return answer


def sound(history, landings):
    """Tell whether each tree behind the first one is what its landing makes of the one ahead."""
    if not is_history(history):
        raise BadValue(1)
    if not is_row(landings, len(history) - 1) or not all([is_landing(pair) for pair in landings]):
        raise BadValue(2)
    for at, (registry, proposal) in enumerate(landings):
        if landing(history[at], registry, proposal) != ("landed", history[at + 1]):
            return False
    return True


def land_all(head, registry, proposals):
    """Return (what `landing` returns of each proposal, each on the newest tree; all trees)."""
    check_tree(head, 1)
    check_registry(registry, 2)
    if not is_sequence(proposals) or len(proposals) > MOST_PROPOSALS:
        raise BadValue(3)
    if not all([is_proposal(proposal) for proposal in proposals]):
        raise BadValue(3)
    trees = [head]
    answers = []
    store = Store()
    for proposal in proposals:
        answer, _ = tried(trees[-1], registry, proposal, store)
        answers.append(answer)
        if answer[0] == "landed":
            trees.append(answer[1])
    return (tuple(answers), tuple(trees))


def first_bad(history, registry, place, name):
    """Return the number of the first tree from which on, up to the last, the name is bad, or None."""
    if not is_history(history):
        raise BadValue(1)
    check_registry(registry, 2)
    if not is_word(place):
        raise BadValue(3)
    if not is_word(name):
        raise BadValue(4)
    first = None
    for at in reversed(range(len(history))):
        if not _is_bad(history[at], registry, place, name):
            return first
        first = at
    return first


def is_history(value):
    """Tell whether the value is a history."""
    if not is_sequence(value) or not 1 <= len(value) <= MOST_TREES:
        return False
    return all([isinstance(tree, Tree) for tree in value])


def is_proposal(value):
    """Tell whether the value is a proposal (tree, edit, author, given)."""
    if not is_row(value, 4) or not isinstance(value[0], Tree):
        return False
    return tree_made(value[0], value[1]) is not None and is_word(value[2]) and is_given(value[3])


def is_landing(value):
    """Tell whether the value is a pair (registry, proposal)."""
    return is_row(value, 2) and is_registry(value[0]) and is_proposal(value[1])


def tried(head, registry, proposal, store):
    """Return (what `landing` returns, how many names were fresh in its tests).

    The tests take traces from the store, and put those of the fresh names into it.
    """
    base, edit, author, given = proposal
    word, more = merged(base, head, tree_made(base, edit))
    if word == "clash":
        return ((word, more), 0)
    tree = more
    wrong = check(tree)
    if wrong is not None:
        return (("file", wrong), 0)
    sides = (_lines_asked(head), read_approvals(tree.files))
    word, line = approved_by(sides, touched(head, tree), author, given)
    if word == "no":
        return (("own", line), 0)
    try:
        source = source_of(tree, registry)
    except NoSolution as lack:
        return (("packs", lack.paper), 0)
    failed, count = tested(source, places(tree), store)
    return (("landed", tree) if failed is None else ("test", failed), count)


def _lines_asked(head):
    """Return the lines of approvals of a head, none if its file is not right."""
    try:
        return read_approvals(head.files)
    except BadFile:
        return ()


def _is_bad(tree, registry, place, name):
    """Tell whether the name is bad in the tree at the place."""
    if check(tree) is not None:
        return True
    found = place_named(tree, place)
    words = {rule[1]: rule[0] for rule in rules(tree)}
    if found is None or name not in words:
        return True
    try:
        results = dict(built(tree, found[2], registry))
    except NoSolution:
        return True
    if words[name] == "test":
        return not passes(results[name])
    return results[name][0] == "bad"
