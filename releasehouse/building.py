"""What rules make of a tree, facts and a registry: results, traces and stores."""

from releasehouse.errors import BadValue
from releasehouse.looking import looked, passes
from releasehouse.proofs import trace_holds
from releasehouse.stores import Store, fitting
from releasehouse.values import is_sequence, plain
from releasehouse.worlds import values_at, world_at, world_of


def built(tree, facts, registry):
    """Return the pairs (name, result) of all targets and tests."""
    return results_of(traces(tree, facts, registry))


def traces(tree, facts, registry):
    """Return the pairs (name, trace) of all targets and tests."""
    pairs, _ = traced(world_of(tree, facts, registry), Store())
    return pairs


def rebuilt(tree, facts, registry, store):
    """Return (results, fresh names, store), taking from the store what fits."""
    world = world_of(tree, facts, registry)
    if not is_sequence(store):
        raise BadValue(4)
    after = Store([plain(trace) for trace in store if trace_holds(trace)])
    results, fresh = renewed(world, after)
    return (results, fresh, tuple(after.kept))


def failing(tree, facts, registry):
    """Return the names of the tests that do not pass."""
    world = world_of(tree, facts, registry)
    pairs, _ = traced(world, Store())
    return failing_of(world, results_of(pairs))


def results_of(pairs):
    """Return the pairs (name, result) for pairs (name, trace)."""
    return tuple([(name, trace[2]) for name, trace in pairs])


def failing_of(world, results):
    """Return the names of the tests of a world that do not pass, its results being these."""
    result_of = dict(results)
    return tuple([name for word, name, _ in world.row if word == "test" and not passes(result_of[name])])


def renewed(world, store):
    """Return (results, fresh names) of a world, and put the traces of the fresh names into the store."""
    pairs, fresh = traced(world, store)
    trace_of = dict(pairs)
    for name in fresh:
        store.put(trace_of[name])
    return (results_of(pairs), fresh)


def tested(source, places, store):
    """Return (the first place and test that does not pass, or None; how many names were fresh).

    The places are triples as `places` returns them. Traces are taken from the store, and put into it.
    """
    count = 0
    for place, _, facts in places:
        world = world_at(source, facts)
        results, fresh = renewed(world, store)
        count += len(fresh)
        failed = failing_of(world, results)
        if failed:
            return ((place, failed[0]), count)
    return (None, count)


def traced(world, store):
    """Return the pairs (name, trace) of a world, and the names that no trace of the store fits.

    What a trace of the store fits is not looked at anew.
    """
    pairs = []
    fresh = []
    results = {}
    for _, name, expression in world.row:
        values = values_at(world, expression, results)
        trace = fitting(store, expression, values)
        if trace is None:
            readings, result = looked(expression, values)
            trace = (expression, readings, result)
            fresh.append(name)
        results[name] = trace[2]
        pairs.append((name, trace))
    return (tuple(pairs), tuple(fresh))
