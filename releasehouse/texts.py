"""Trees, edits and packages as texts, and what such texts tell."""

from releasehouse.errors import BadSyntax, BadValue
from releasehouse.packages import is_package
from releasehouse.rows import need_of
from releasehouse.trees import Tree, is_edit
from releasehouse.values import digit_of, is_path, is_word

MOST_CHANGES = 120

# The kinds of lines that may stand behind one of each kind. Behind a line of
# a content it hangs on whose content it is: "file |" is one of a file's.
BEHIND = {
    "": ("tree", "edit", "package"),
    "tree": ("file",),
    "file": ("|",),
    "file |": ("|", "file"),
    "edit": ("put", "drop"),
    "put": ("|",),
    "put |": ("|", "put", "drop"),
    "drop": ("put", "drop"),
    "package": ("need", "content"),
    "need": ("need", "content"),
    "content": ("|",),
    "content |": ("|",),
}
# The kinds behind which a text may end.
LAST = ("tree", "file |", "edit", "put |", "drop", "content |")


def printed(value):
    """Return the text of a tree, an edit or a package."""
    if isinstance(value, Tree):
        lines = ["tree"]
        for path, content in value.files:
            lines.extend(["file " + path] + content_lines(content))
    elif is_edit(value) and len(value) <= MOST_CHANGES:
        lines = ["edit"]
        for change in value:
            lines.append(change[0] + " " + change[1])
            if change[0] == "put":
                lines.extend(content_lines(change[2]))
    elif is_package(value):
        name, version, needs, content = value
        lines = [f"package {name} {version}"]
        lines.extend([f"need {other} {low} {high}" for other, low, high in needs])
        lines.extend(["content"] + content_lines(content))
    else:
        raise BadValue(1)
    return "".join([line + "\n" for line in lines])


def parse(text):
    """Return the tree, the edit or the package that a text tells."""
    if not isinstance(text, str):
        raise BadValue(1)
    lines = text.split("\n")
    unended = lines.pop()
    kind = ""
    for at, line in enumerate(lines):
        kind = kind_behind(kind, line)
        if kind is None:
            raise BadSyntax(at)
    if unended != "" or kind not in LAST:
        raise BadSyntax(len(lines))
    return value_of(blocks_of(lines))


def content_lines(content):
    """Return the lines of a content."""
    return ["|" + line for line in content.split("\n")]


def kind_behind(kind, line):
    """Return the kind of a line that stands behind one of this kind, or None if it is wrong there."""
    if line.startswith("|"):
        if "|" not in BEHIND[kind]:
            return None
        return kind if kind.endswith(" |") else kind + " |"
    parts = line.split(" ")
    return parts[0] if parts[0] in BEHIND[kind] and is_head(parts) else None


def is_head(parts):
    """Tell whether these are the parts of a line that is none of a content."""
    word = parts[0]
    if word in ("file", "put", "drop"):
        return len(parts) == 2 and is_path(parts[1])
    if word == "package":
        return len(parts) == 3 and is_word(parts[1]) and digit_of(parts[2]) >= 1
    if word == "need":
        return need_of(parts) is not None
    return len(parts) == 1


def blocks_of(lines):
    """Return for each line that is none of a content its parts and the content behind it, or None."""
    blocks = []
    for line in lines:
        if not line.startswith("|"):
            blocks.append((line.split(" "), None))
        else:
            parts, ahead = blocks.pop()
            blocks.append((parts, line[1:] if ahead is None else ahead + "\n" + line[1:]))
    return blocks


def value_of(blocks):
    """Return what the blocks of a text of right form tell; BadValue(1) if that is none."""
    head, _ = blocks[0]
    if head[0] == "tree":
        return Tree([(parts[1], content) for parts, content in blocks[1:]])
    if head[0] == "edit":
        edit = tuple([change_of(parts, content) for parts, content in blocks[1:]])
        if not is_edit(edit) or len(edit) > MOST_CHANGES:
            raise BadValue(1)
        return edit
    needs = tuple([need_of(parts) for parts, _ in blocks[1:-1]])
    package = (head[1], int(head[2]), needs, blocks[-1][1])
    if not is_package(package):
        raise BadValue(1)
    return package


def change_of(parts, content):
    """Return the element of an edit that a block tells."""
    word, path = parts
    return (word, path) if word == "drop" else (word, path, content)
