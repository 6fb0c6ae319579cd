"""Traces that hold, and papers of what was built: checked without building."""

from releasehouse.expressions import is_expression
from releasehouse.looking import is_result, looked, pairs_of
from releasehouse.packages import is_version
from releasehouse.stores import reads_alike
from releasehouse.values import is_ascending, is_content, is_path, is_row, is_sequence, is_word, plain
from releasehouse.worlds import values_at, world_of

# The values of readings that a trace lacks. With whatever value they are
# done, they are not among its readings, and so the trace does not hold.
LACKED = {
    "file": None,
    "each": (),
    "names": (),
    "pack": None,
    "version": None,
    "set": None,
    "dep": ("bad", "dep"),
}


def trace_holds(trace):
    """Tell whether the value is a trace that holds."""
    if not is_row(trace, 3) or not is_expression(trace[0]) or not is_sequence(trace[1]):
        return False
    if not all([is_reading(reading) for reading in trace[1]]):
        return False
    expression, readings, result = plain(trace)
    values = {(word, name): LACKED[word] for word, name in pairs_of(expression)}
    for word, name, value in readings:
        values[(word, name)] = value
    # A pair that the trace has with two values is done with one of them, and so differs.
    return looked(expression, values) == (readings, result)


def paper_holds(tree, facts, registry, paper):
    """Tell whether the value is a paper for a tree, facts and registry."""
    world = world_of(tree, facts, registry)
    if not is_row(paper, len(world.row)):
        return False
    results = {}
    for rule, entry in zip(world.row, paper):
        _, name, expression = rule
        if not is_row(entry, 2) or entry[0] != name or not trace_holds(entry[1]):
            return False
        trace = plain(entry[1])
        if trace[0] != expression or not reads_alike(trace, values_at(world, expression, results)):
            return False
        results[name] = trace[2]
    return True


def is_reading(value):
    """Tell whether the value is a triple (word, name, value) with a value that the word can have."""
    if not is_row(value, 3) or not isinstance(value[0], str) or not isinstance(value[1], str):
        return False
    word, name, found = value
    if word == "each":
        are_pairs = is_sequence(found) and all([is_row(pair, 2) and is_content(pair[1]) for pair in found])
        return are_pairs and is_below(name, [pair[0] for pair in found])
    if word == "names":
        return is_sequence(found) and is_below(name, found)
    if word == "dep":
        return is_result(found)
    if word not in LACKED:
        return False
    return found is None or is_found(word, found)


def is_found(word, value):
    """Tell whether the value is one that a reading can have that finds something."""
    if word == "version":
        return is_version(value)
    if word == "set":
        return is_sequence(value) and len(value) >= 1 and all([is_word(part) for part in value])
    return is_content(value)


def is_below(name, paths):
    """Tell whether these are paths, ascending, that begin with the name and a slash."""
    if not all([is_path(path) and path.startswith(name + "/") for path in paths]):
        return False
    return is_ascending(paths)
