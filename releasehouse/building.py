"""What rules make of a tree, facts and a registry: results, traces and stores."""

from releasehouse.errors import BadValue
from releasehouse.looking import looked, passes
from releasehouse.proofs import reads_alike, trace_holds
from releasehouse.values import is_sequence, plain
from releasehouse.worlds import values_at, world_at, world_of


def built(tree, facts, registry):
    """Return the pairs (name, result) of all targets and tests."""
    return results_of(traces(tree, facts, registry))


def traces(tree, facts, registry):
    """Return the pairs (name, trace) of all targets and tests."""
    pairs, _ = traced(world_of(tree, facts, registry), ())
    return pairs


def rebuilt(tree, facts, registry, store):
    """Return (results, fresh names, store), taking from the store what fits."""
    world = world_of(tree, facts, registry)
    if not is_sequence(store):
        raise BadValue(4)
    kept = {plain(trace): True for trace in store if trace_holds(trace)}
    return renewed(world, tuple(kept))


def failing(tree, facts, registry):
    """Return the names of the tests that do not pass."""
    world = world_of(tree, facts, registry)
    pairs, _ = traced(world, ())
    return failing_of(world, results_of(pairs))


def results_of(pairs):
    """Return the pairs (name, result) for pairs (name, trace)."""
    return tuple([(name, trace[2]) for name, trace in pairs])


def failing_of(world, results):
    """Return the names of the tests of a world that do not pass, its results being these."""
    result_of = dict(results)
    return tuple([name for word, name, _ in world.row if word == "test" and not passes(result_of[name])])


def renewed(world, kept):
    """Return (results, fresh names, store) for a tuple of plain traces that all hold, each once."""
    pairs, fresh = traced(world, kept)
    # A fresh name's trace is not among the kept ones, but two fresh names may have the same.
    trace_of = dict(pairs)
    added = {trace_of[name]: True for name in fresh}
    return (results_of(pairs), fresh, kept + tuple(added))


def tested(source, places, kept):
    """Return (the first place and test that does not pass, or None; store; how many names were fresh).

    The places are triples as `places` returns them. What is kept is handed on from one to the next.
    """
    count = 0
    store = kept
    for place, _, facts in places:
        world = world_at(source, facts)
        results, fresh, store = renewed(world, store)
        count += len(fresh)
        failed = failing_of(world, results)
        if failed:
            return ((place, failed[0]), store, count)
    return (None, store, count)


def traced(world, kept):
    """Return the pairs (name, trace) of a world, and the names that no kept trace fits.

    Kept is a tuple of plain traces that all hold. What one of them fits is
    not looked at anew.
    """
    kept_by_expression = {}
    for trace in kept:
        kept_by_expression.setdefault(trace[0], []).append(trace)
    pairs = []
    fresh = []
    results = {}
    for _, name, expression in world.row:
        values = values_at(world, expression, results)
        fitting = [trace for trace in kept_by_expression.get(expression, ()) if reads_alike(trace, values)]
        if not fitting:
            readings, result = looked(expression, values)
            fitting.append((expression, readings, result))
            fresh.append(name)
        results[name] = fitting[0][2]
        pairs.append((name, fitting[0]))
    return (tuple(pairs), tuple(fresh))
