"""Stores of traces, as they are kept while building."""


class Store:
    """Plain traces that all hold, each once, in the order in which they came."""

    def __init__(self, kept=()):
        self.kept = {}
        self.by_expression = {}
        for trace in kept:
            self.put(trace)

    def put(self, trace):
        """Put a trace behind the others, unless it is there."""
        if trace not in self.kept:
            self.kept[trace] = True
            self.by_expression.setdefault(trace[0], []).append(trace)


def fitting(store, expression, values):
    """Return a trace of this expression whose readings have these values, or None."""
    # From the last one on, as what was looked at last is likely to be so still.
    for trace in reversed(store.by_expression.get(expression, ())):
        if reads_alike(trace, values):
            return trace
    return None


def reads_alike(trace, values):
    """Tell whether the readings of a trace that holds have these values of its expression."""
    for word, name, value in trace[1]:
        if values[(word, name)] != value:
            return False
    return True
