"""What the document says of looking and of traces, written a second time and in another way."""

import re

from releasehouse.files import goals, rules, settled
from releasehouse.packages import solved
from releasehouse.trees import Tree

ONE = ("file", "each", "names", "pack", "version", "set", "lit", "dep")
MANY = {"line": 0, "cat": 2, "up": 1, "size": 1, "has": 2, "same": 2, "not": 1, "if": 3}
PATH = re.compile(r"[a-z][a-z0-9]{0,11}(/[a-z][a-z0-9]{0,11}){0,3}")
WORD = re.compile(r"[a-z][a-z0-9]{0,11}")
SIGNS = re.compile(r"[ -$&-~\n]*")


class Bad(Exception):
    """What is looked at is bad, with this word."""


class Astray(Exception):
    """A reading is done that a trace has not at this place."""


def nested_of(parts):
    """Return (word, name or list of nested ones), taking its parts off the list."""
    word = parts.pop(0)
    if word in ONE:
        return (word, parts.pop(0))
    return (word, [nested_of(parts) for _ in range(MANY[word])])


def text_of(node, read):
    """Return the text of what is nested; read(word, name) gives the values."""
    text = text_unbounded(node, read)
    if len(text) > 5000:
        raise Bad("long")
    return text


def text_unbounded(node, read):
    word, more = node
    if word == "lit":
        return more
    if word in ONE:
        return text_read(word, read(word, more))
    if word == "if":
        return text_of(more[1] if text_of(more[0], read) else more[2], read)
    texts = [text_of(part, read) for part in more]
    return {
        "line": lambda: "\n",
        "cat": lambda a, b: a + b,
        "up": lambda a: "".join(chr(ord(sign) - 32) if "a" <= sign <= "z" else sign for sign in a),
        "size": lambda a: f"{len(a)}",
        "has": lambda a, b: "ok" if a.find(b) >= 0 else "",
        "same": lambda a, b: "ok" if a == b else "",
        "not": lambda a: "" if a else "ok",
    }[word](*texts)


def text_read(word, value):
    if word in ("file", "pack", "version") and value is None:
        raise Bad("file" if word == "file" else "pack")
    if word == "dep":
        if value[0] == "bad":
            raise Bad("dep")
        return value[1]
    if word == "each":
        return "".join(content for _, content in value)
    if word in ("names", "set"):
        return " ".join(value or ())
    return f"{value}"


def looked_at(expression, read):
    """Return (readings, result)."""
    readings = []

    def noted(word, name):
        value = read(word, name)
        readings.append((word, name, value))
        return value

    try:
        result = ("made", text_of(nested_of(list(expression)), noted))
    except Bad as bad:
        result = ("bad", bad.args[0])
    return (tuple(readings), result)


def all_traces(tree, facts, registry):
    """Return what `traces` has to return, where there is a solution and no wrong file."""
    word, solution = solved(registry, goals(tree))
    assert word == "solution"
    contents = {package[:2]: package[3] for package in registry}
    picked = dict(solution)
    items = dict(settled(tree, facts))
    files = dict(tree.files)
    results = {}

    def read(word, name):
        if word == "file":
            return files.get(name)
        if word == "each":
            return tuple((path, text) for path, text in tree.files if path.startswith(name + "/"))
        if word == "names":
            return tuple(path for path, _ in tree.files if path.startswith(name + "/"))
        if word == "pack":
            return contents[(name, picked[name])] if name in picked else None
        return {"version": picked, "set": items, "dep": results}[word].get(name)

    found = []
    for _, name, expression in rules(tree):
        readings, result = looked_at(expression, read)
        results[name] = result
        found.append((name, (expression, readings, result)))
    return tuple(found)


def is_form(word, name, value):
    """Tell whether a reading can have this value."""
    if word == "version":
        return value is None or type(value) is int and 1 <= value <= 9
    if word in ("file", "pack"):
        return value is None or is_text(value, 1000)
    if word == "dep":
        if not isinstance(value, (list, tuple)) or len(value) != 2:
            return False
        if value[0] == "made":
            return is_text(value[1], 5000)
        return value[0] == "bad" and value[1] in ["file", "pack", "dep", "long"]
    if not isinstance(value, (list, tuple)):
        return word == "set" and value is None
    if word == "set":
        return len(value) > 0 and all(is_like(WORD, part) for part in value)
    if word == "each" and not all(
        isinstance(pair, (list, tuple)) and len(pair) == 2 and is_text(pair[1], 1000) for pair in value
    ):
        return False
    paths = [pair[0] for pair in value] if word == "each" else list(value)
    if not all(is_like(PATH, path) and path.startswith(name + "/") for path in paths):
        return False
    return paths == sorted(set(paths))


def is_text(value, most):
    return isinstance(value, str) and len(value) <= most and SIGNS.fullmatch(value) is not None


def is_like(form, value):
    return isinstance(value, str) and form.fullmatch(value) is not None


def is_formed(expression):
    """Tell whether the value is an expression."""
    if not isinstance(expression, (list, tuple)) or not 1 <= len(expression) <= 60:
        return False
    if not all(isinstance(part, str) for part in expression):
        return False
    parts = list(expression)
    try:
        nested_of(parts)
    except (IndexError, KeyError):
        return False
    if parts:
        return False
    parts = list(expression)
    while parts:
        word = parts.pop(0)
        if word in ONE:
            name = parts.pop(0)
            if word == "lit":
                if not re.fullmatch(r"[!-$&-~]{1,40}", name):
                    return False
            elif not is_like(PATH if word in ("file", "each", "names") else WORD, name):
                return False
    return True


def tuples(value):
    if isinstance(value, (list, tuple)):
        return tuple(tuples(part) for part in value)
    return value


def holds(trace):
    """Tell whether a value is a trace that holds: its readings are taken off one by one."""
    if not isinstance(trace, (list, tuple)) or len(trace) != 3 or not is_formed(trace[0]):
        return False
    if not isinstance(trace[1], (list, tuple)):
        return False
    seen = {}
    for reading in trace[1]:
        if not isinstance(reading, (list, tuple)) or len(reading) != 3:
            return False
        word, name, value = reading
        if not isinstance(word, str) or word not in ONE or word == "lit" or not isinstance(name, str):
            return False
        if not is_form(word, name, value) or seen.setdefault((word, name), tuples(value)) != tuples(value):
            return False
    left = [tuples(reading) for reading in trace[1]]

    def read(word, name):
        if not left or left[0][:2] != (word, name):
            raise Astray
        return left.pop(0)[2]

    try:
        _, result = looked_at(trace[0], read)
    except Astray:
        return False
    return not left and isinstance(trace[2], (list, tuple)) and repr(tuples(trace[2])) == repr(result)


def tree_of(chance):
    """Return a random small tree with right files, whose goals REGISTRY solves."""
    files = {}
    for path in ("app", "app/a", "app/a/b", "app/b", "doc/a", "set", "set0/a"):
        if chance.random() < 0.6:
            files[path] = chance.choice(("", "run", "ok", "Run away\n", "x" * 999, "y" * 1000))
    lines = []
    for _ in range(chance.randint(0, 4)):
        key = chance.choice("kl")
        line = chance.choice((f"{key} = a", f"{key} += b c", f"drop {key}"))
        lines += chance.choice(([line], ["when land is fr", line, "end"], ["when kind is shop", line, "end"]))
    files["set/all"] = "\n".join(lines)
    files["pack/goals"] = chance.choice(("", "need lib 1 9\n", "need lib 1 1", "need tool 1 3\n"))
    targets = []
    rows = []
    for name in ("one", "two", "three", "four", "five")[:chance.randint(0, 5)]:
        word = chance.choice(("target", "target", "test"))
        rows.append(f"{word} {name} = " + " ".join(expression_of(chance, targets, 3)))
        if word == "target":
            targets.append(name)
    cut = chance.randint(0, len(rows))
    files["build/a"] = "\n".join(rows[:cut])
    files["build/b"] = "\n".join(rows[cut:])
    return Tree(tuple(sorted(files.items())))


def expression_of(chance, targets, depth):
    """Return the parts of a random expression."""
    word = chance.choice(tuple(MANY) if depth > 0 and chance.random() < 0.6 else ONE)
    if word in MANY:
        parts = [word]
        for _ in range(MANY[word]):
            parts += expression_of(chance, targets, depth - 1)
        return parts
    if word == "dep" and not targets:
        word = "lit"
    names = {
        "lit": ("ok", "x", "run"), "dep": targets, "pack": ("lib", "tool", "none"), "version": ("lib", "tool", "none"),
        "set": ("k", "l", "m"),
    }
    return [word, chance.choice(names.get(word, ("app", "app/a", "app/a/b", "doc", "doc/a", "set", "none")))]


REGISTRY = (
    ("lib", 1, (), "lib one"),
    ("lib", 2, (("tool", 2, 3),), "lib two\n"),
    ("tool", 1, (), "x" * 1000),
    ("tool", 2, (), ""),
)
FACTS = ((), (("land", "fr"),), (("kind", "shop"), ("land", "fr")), (("land", "de"),))
