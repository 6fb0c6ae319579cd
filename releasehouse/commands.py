"""The forms of commands."""

from releasehouse.values import is_word

MOST_DIGITS = 4

# What stands behind the first word of a command; `line` is read by itself.
FORMS = {
    "clear": ("word",),
    "show": ("word",),
    "start": ("word",),
    "pack": ("word",),
    "propose": ("number", "word", "word", "given"),
    "land": (),
    "release": (),
    "begin": ("number",),
    "step": (),
    "report": ("word", "health"),
    "halt": (),
    "lost": (),
    "cut": ("word",),
    "runs": ("word",),
    "work": (),
    "failing": ("word",),
    "bad": ("word", "word"),
}


def command_of(command):
    """Return the pair (first word, list of what stands behind it) of a command, or None if it has no form."""
    word, blank, more = command.partition(" ")
    if word == "line":
        name, second_blank, line = more.partition(" ")
        return (word, [name, line]) if second_blank == " " and is_word(name) else None
    if word not in FORMS:
        return None
    kinds = FORMS[word]
    parts = more.split(" ") if blank == " " else []
    if len(parts) != len(kinds) or not all([is_part(kind, part) for kind, part in zip(kinds, parts)]):
        return None
    return (word, [part_told(kind, part) for kind, part in zip(kinds, parts)])


def is_part(kind, part):
    """Tell whether a part of a command is of this kind."""
    if kind == "number":
        return is_number(part)
    if kind == "given":
        return part == "-" or all([is_word(name) for name in part.split(",")])
    if kind == "health":
        return part in ("well", "ill")
    return is_word(part)


def is_number(part):
    """Tell whether a part of a command is a number, with no zeros in front."""
    if not part.isascii() or not part.isdigit() or len(part) > MOST_DIGITS:
        return False
    return part == "0" or not part.startswith("0")


def part_told(kind, part):
    """Return what a part of this kind tells."""
    if kind == "number":
        return int(part)
    if kind == "given":
        return () if part == "-" else tuple(part.split(","))
    return part
