"""Packages, registries and goals: solutions, and papers that there is none."""

from releasehouse.asking import asked_with, first_against, needs_by_name, versions_left
from releasehouse.errors import BadValue
from releasehouse.solving import best_or_paper
from releasehouse.values import is_ascending, is_content, is_integer, is_row, is_sequence, is_word

MOST_VERSION = 9
MOST_NEEDS = 4
MOST_GOALS = 6
MOST_PACKAGES = 30


def is_version(value):
    """Tell whether the value is an integer from 1 to 9."""
    return is_integer(value) and 1 <= value <= MOST_VERSION


def is_need(value):
    """Tell whether the value is a triple (name, low, high)."""
    if not is_row(value, 3) or not is_word(value[0]):
        return False
    return is_version(value[1]) and is_version(value[2]) and value[1] <= value[2]


def is_needs(value, most):
    """Tell whether the value is an ascending sequence of at most so many needs."""
    if not is_sequence(value) or len(value) > most:
        return False
    if not all([is_need(need) for need in value]):
        return False
    return is_ascending([need[0] for need in value])


def is_goals(value):
    """Tell whether the value is goals."""
    return is_needs(value, MOST_GOALS)


def is_package(value):
    """Tell whether the value is a package (name, version, needs, content)."""
    if not is_row(value, 4) or not is_word(value[0]) or not is_version(value[1]):
        return False
    return is_needs(value[2], MOST_NEEDS) and is_content(value[3])


def is_registry(value):
    """Tell whether the value is a registry."""
    if not is_sequence(value) or len(value) > MOST_PACKAGES:
        return False
    if not all([is_package(package) for package in value]):
        return False
    return is_ascending([(package[0], package[1]) for package in value])


def check_registry(value, at):
    """Raise BadValue with this place unless the value is a registry."""
    if not is_registry(value):
        raise BadValue(at)


def solved(registry, goals):
    """Return ("solution", the best solution), or ("none", a paper that refutes the goals)."""
    check_registry(registry, 1)
    if not is_goals(goals):
        raise BadValue(2)
    solution, paper = best_or_paper(registry, goals)
    if solution is None:
        return ("none", paper)
    return ("solution", solution)


def refutes(registry, goals, paper):
    """Tell whether the paper shows that the goals have no solution."""
    check_registry(registry, 1)
    if not is_goals(goals):
        raise BadValue(2)
    return _refuted(needs_by_name(registry), asked_with({}, goals, None), {}, paper)


def _refuted(packs, asked, picked, paper):
    """Tell whether the paper is one for what is asked and picked."""
    if not is_sequence(paper) or len(paper) < 2 or not isinstance(paper[1], str):
        return False
    name = paper[1]
    if len(paper) == 2 and paper[0] == "clash":
        return name in picked and first_against(asked[name], picked[name]) is not None
    if len(paper) != 3 or paper[0] != "pick" or name not in asked or name in picked:
        return False
    branches = paper[2]
    left = versions_left(packs, asked, name)
    if not is_row(branches, len(left)):
        return False
    for version, branch in zip(left, branches):
        if not is_row(branch, 2) or not is_integer(branch[0]) or branch[0] != version:
            return False
        more = asked_with(asked, packs[name][version], name)
        if not _refuted(packs, more, {**picked, name: version}, branch[1]):
            return False
    return True
