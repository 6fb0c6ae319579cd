"""The form of expressions."""

from releasehouse.values import is_path, is_sequence, is_shown, is_word

MOST_PARTS = 60
MOST_TEXT_SIGNS = 40

# How many expressions stand behind each word that takes no name.
BEHIND = {"line": 0, "cat": 2, "up": 1, "size": 1, "has": 2, "same": 2, "not": 1, "if": 3}
# Which kind of name stands behind each word that takes one.
NAMED = {
    "file": "path",
    "each": "path",
    "names": "path",
    "pack": "word",
    "version": "word",
    "set": "word",
    "dep": "word",
    "lit": "text",
}


def is_text(value):
    """Tell whether the value is a text as lit takes it."""
    return is_shown(value) and 1 <= len(value) <= MOST_TEXT_SIGNS and " " not in value


def is_name(kind, value):
    """Tell whether the value is a name of this kind."""
    if kind == "path":
        return is_path(value)
    if kind == "word":
        return is_word(value)
    return is_text(value)


def steps_of(parts):
    """Return the pairs (word, name) of a row of parts, name None where none is taken.

    None if a part has no meaning where it stands.
    """
    steps = []
    at = 0
    while at < len(parts):
        word = parts[at]
        if word in BEHIND:
            steps.append((word, None))
            at += 1
        elif word in NAMED and at + 1 < len(parts) and is_name(NAMED[word], parts[at + 1]):
            steps.append((word, parts[at + 1]))
            at += 2
        else:
            return None
    return steps


def is_whole(steps):
    """Tell whether the steps make one expression, with nothing left behind it."""
    wanted = 1
    for word, _ in steps:
        if wanted == 0:
            return False
        wanted += BEHIND.get(word, 0) - 1
    return wanted == 0


def is_expression(value):
    """Tell whether the value is an expression."""
    if not is_sequence(value) or not 1 <= len(value) <= MOST_PARTS:
        return False
    if not all([isinstance(part, str) for part in value]):
        return False
    steps = steps_of(value)
    return steps is not None and is_whole(steps)


def deps_of(expression):
    """Return the names of the targets that an expression names."""
    return [name for word, name in steps_of(expression) if word == "dep"]
