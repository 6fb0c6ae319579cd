"""Trees of files, edits of them, and merges."""

from releasehouse.errors import BadValue
from releasehouse.values import is_ascending, is_content, is_path, is_row, is_sequence

MOST_FILES = 60


class Tree:
    """Files: pairs of a path and a content, ascending by their paths."""

    def __init__(self, files=()):
        if not is_files(files):
            raise BadValue(1)
        self._files = tuple([(path, content) for path, content in files])

    @property
    def files(self):
        """The tuple of the pairs (path, content)."""
        return self._files

    def __eq__(self, other):
        return isinstance(other, Tree) and self._files == other._files


def is_files(value):
    """Tell whether the value is a sequence of files as a Tree has them."""
    if not is_sequence(value) or len(value) > MOST_FILES:
        return False
    if not all([is_row(pair, 2) and is_path(pair[0]) and is_content(pair[1]) for pair in value]):
        return False
    return is_ascending([pair[0] for pair in value])


def check_tree(value, at):
    """Raise BadValue with this place unless the value is a Tree."""
    if not isinstance(value, Tree):
        raise BadValue(at)


def is_change(value):
    """Tell whether the value is one element of an edit."""
    if is_row(value, 3) and value[0] == "put":
        return is_path(value[1]) and is_content(value[2])
    return is_row(value, 2) and value[0] == "drop" and is_path(value[1])


def is_edit(value):
    """Tell whether the value is an edit, whatever tree it is for."""
    if not is_sequence(value) or not all([is_change(change) for change in value]):
        return False
    return is_ascending([change[1] for change in value])


def edited(tree, edit):
    """Return the tree that the edit makes of the tree."""
    check_tree(tree, 1)
    made = tree_made(tree, edit)
    if made is None:
        raise BadValue(2)
    return made


def tree_made(tree, edit):
    """Return the tree that the edit makes of the tree, or None if the value is no edit for it."""
    if not is_edit(edit):
        return None
    contents = dict(tree.files)
    for change in edit:
        if change[0] == "put":
            contents[change[1]] = change[2]
        else:
            contents.pop(change[1], None)
    if len(contents) > MOST_FILES:
        return None
    return Tree([(path, contents[path]) for path in sorted(contents)])


def between(old, new):
    """Return the shortest edit that makes the new tree of the old one."""
    check_tree(old, 1)
    check_tree(new, 2)
    was = dict(old.files)
    now = dict(new.files)
    edit = []
    for path in sorted({**was, **now}):
        if path not in now:
            edit.append(("drop", path))
        elif was.get(path) != now[path]:
            edit.append(("put", path, now[path]))
    return tuple(edit)


def touched(old, new):
    """Return the paths of the shortest edit that makes the new tree of the old one."""
    return tuple([change[1] for change in between(old, new)])


def merged(base, ours, theirs):
    """Return ("tree", tree) with the changes of both sides, or ("clash", paths)."""
    check_tree(base, 1)
    check_tree(ours, 2)
    check_tree(theirs, 3)
    was = dict(base.files)
    mine = dict(ours.files)
    others = dict(theirs.files)
    clashes = []
    files = []
    for path in sorted({**was, **mine, **others}):
        before, here, there = was.get(path), mine.get(path), others.get(path)
        content = there if here == before else here
        if content != there and there != before:
            clashes.append(path)
        elif content is not None:
            files.append((path, content))
    if clashes or len(files) > MOST_FILES:
        return ("clash", tuple(clashes))
    return ("tree", Tree(files))
