"""Who has to approve which change."""

from releasehouse.errors import BadValue
from releasehouse.rows import read_approvals
from releasehouse.trees import check_tree, touched
from releasehouse.values import is_ascending, is_path, is_sequence, is_word

MOST_GIVEN = 8


def approvals(tree, path):
    """Return the triples (line, count, names) of the lines that touch the path."""
    check_tree(tree, 1)
    if not is_path(path):
        raise BadValue(2)
    rows = read_approvals(tree.files)
    return tuple([(line, count, names) for line, prefix, count, names in rows if touches(prefix, path)])


def approved(old, new, author, given):
    """Return ("yes", all lines that are asked), or ("no", the first one that is not fulfilled)."""
    check_tree(old, 1)
    check_tree(new, 2)
    if not is_word(author):
        raise BadValue(3)
    if not is_given(given):
        raise BadValue(4)
    sides = (read_approvals(old.files), read_approvals(new.files))
    return approved_by(sides, touched(old, new), author, given)


def approved_by(sides, paths, author, given):
    """Return what `approved` does, for the lines of both sides and the paths that are changed."""
    others = [name for name in given if name != author]
    asked = []
    for side, rows in enumerate(sides):
        for line, prefix, count, names in rows:
            if any([touches(prefix, path) for path in paths]):
                if len([name for name in names if name in others]) < count:
                    return ("no", (side, line))
                asked.append((side, line))
    return ("yes", tuple(asked))


def touches(prefix, path):
    """Tell whether a line with this prefix touches the path."""
    return prefix == "all/" or path == prefix or path.startswith(prefix + "/")


def is_given(value):
    """Tell whether the value is approvals as they are given with an edit."""
    if not is_sequence(value) or len(value) > MOST_GIVEN:
        return False
    return all([is_word(name) for name in value]) and is_ascending(value)
