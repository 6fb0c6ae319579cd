"""The lines of goals, rules, approvals and places."""

from releasehouse.errors import BadFile
from releasehouse.expressions import deps_of, is_expression
from releasehouse.lines import told_lines
from releasehouse.values import digit_of, is_facts, is_path, is_word

MOST_GOALS = 6
MOST_RULES = 40
MOST_APPROVALS = 3
MOST_OWNERS = 6
MOST_PLACES = 12


def need_of(parts):
    """Return the triple (name, low, high) that a line of a need tells, or None."""
    if len(parts) != 4 or parts[0] != "need" or not is_word(parts[1]):
        return None
    low = digit_of(parts[2])
    high = digit_of(parts[3])
    return (parts[1], low, high) if 1 <= low <= high else None


def read_goals(files):
    """Return the goals, ascending by names; BadFile for the first wrong line."""
    found = {}
    for path, number, parts in told_lines(files, "pack/goals"):
        need = need_of(parts)
        if need is None or need[0] in found or len(found) == MOST_GOALS:
            raise BadFile(path, number)
        found[need[0]] = need
    return tuple([found[name] for name in sorted(found)])


def rule_of(parts):
    """Return the triple (word, name, expression) that a line of rules tells, or None."""
    if len(parts) < 4 or parts[0] not in ("target", "test"):
        return None
    if not is_word(parts[1]) or parts[2] != "=" or not is_expression(parts[3:]):
        return None
    return (parts[0], parts[1], tuple(parts[3:]))


def read_rules(files):
    """Return the row of rules; BadFile for the first wrong line."""
    row = []
    words = {}
    for path, number, parts in told_lines(files, "build/"):
        rule = rule_of(parts)
        if rule is None or rule[1] in words or len(row) == MOST_RULES:
            raise BadFile(path, number)
        if not all([words.get(name) == "target" for name in deps_of(rule[2])]):
            raise BadFile(path, number)
        words[rule[1]] = rule[0]
        row.append(rule)
    return tuple(row)


def approval_of(parts):
    """Return the triple (prefix, count, names) that a line of approvals tells, or None."""
    names = parts[3:]
    if parts[0] != "own" or not 1 <= len(names) <= MOST_OWNERS:
        return None
    if parts[1] != "all/" and not is_path(parts[1]):
        return None
    count = digit_of(parts[2])
    if not 0 <= count <= MOST_APPROVALS:
        return None
    if not all([is_word(name) for name in names]) or len(set(names)) < len(names):
        return None
    return (parts[1], count, tuple(names))


def read_approvals(files):
    """Return (line, prefix, count, names) of each line; BadFile for the first wrong one."""
    found = []
    for path, number, parts in told_lines(files, "own/rules"):
        approval = approval_of(parts)
        if approval is None:
            raise BadFile(path, number)
        prefix, count, names = approval
        found.append((number, prefix, count, names))
    return tuple(found)


def place_of(parts):
    """Return the triple (name, wave, facts) that a line of places tells, or None."""
    if len(parts) < 3 or parts[0] != "place" or not is_word(parts[1]):
        return None
    wave = digit_of(parts[2])
    facts = tuple([tuple(part.split("=")) for part in parts[3:]])
    return (parts[1], wave, facts) if wave >= 1 and is_facts(facts) else None


def read_places(files):
    """Return the places, ascending by wave, then by name; BadFile for the first wrong line."""
    found = {}
    for path, number, parts in told_lines(files, "fleet/places"):
        place = place_of(parts)
        if place is None or place[0] in found or len(found) == MOST_PLACES:
            raise BadFile(path, number)
        found[place[0]] = place
    return tuple(sorted(list(found.values()), key=lambda place: (place[1], place[0])))
