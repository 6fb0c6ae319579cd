"""What comes of looking at an expression, when the values of its readings are known."""

from releasehouse.expressions import BEHIND, NAMED, steps_of
from releasehouse.values import is_row, is_signs

MOST_SIGNS = 5000
YES = "ok"

# The words with which a target's result can be bad.
BAD_WORDS = ("file", "pack", "dep", "long")
# The word with which a reading is bad that finds nothing.
LACKS = {"file": "file", "pack": "pack", "version": "pack"}


def is_result(value):
    """Tell whether the value is a result as targets have them."""
    if not is_row(value, 2):
        return False
    if value[0] == "made":
        return is_signs(value[1], MOST_SIGNS)
    return value[0] == "bad" and value[1] in BAD_WORDS


def passes(result):
    """Tell whether a test with this result passes."""
    return result == ("made", YES)


def pairs_of(expression):
    """Return the pairs (word, name) of all readings that an expression can do."""
    return [(word, name) for word, name in steps_of(expression) if word in NAMED and word != "lit"]


def looked(expression, values):
    """Return (readings, result) of an expression.

    Values is a dict with the value of each pair (word, name) of `pairs_of`.
    """
    readings = []
    result = _result_of(_node_of(expression), values, readings)
    return (tuple(readings), result)


def _node_of(expression):
    """Return the expression as a triple (word, name, nodes of the expressions behind the word)."""
    nodes = []
    # From the right, so that what stands behind a word is there when the word comes.
    for word, name in reversed(steps_of(expression)):
        behind = [nodes.pop() for _ in range(BEHIND.get(word, 0))]
        nodes.append((word, name, behind))
    return nodes.pop()


def _result_of(node, values, readings):
    """Return the result of a node, and put the readings that are done behind the others."""
    word, name, behind = node
    if word == "lit":
        return ("made", name)
    if word in NAMED:
        value = values[(word, name)]
        readings.append((word, name, value))
        return _result_read(word, value)
    if word == "if":
        result = _result_of(behind[0], values, readings)
        if result[0] == "bad":
            return result
        return _result_of(behind[1] if result[1] != "" else behind[2], values, readings)
    texts = []
    for part in behind:
        result = _result_of(part, values, readings)
        if result[0] == "bad":
            return result
        texts.append(result[1])
    return _made(_text_made(word, texts))


def _result_read(word, value):
    """Return the result of a reading that has this value."""
    if word == "dep":
        return value if value[0] == "made" else ("bad", "dep")
    if word in LACKS and value is None:
        return ("bad", LACKS[word])
    return _made(_text_read(word, value))


def _text_read(word, value):
    """Return the text of a reading that finds something."""
    if word == "version":
        return str(value)
    if word == "each":
        return "".join([content for _, content in value])
    if word == "names":
        return " ".join(value)
    if word == "set":
        return "" if value is None else " ".join(value)
    return value


def _text_made(word, texts):
    """Return the text that a word makes of those behind it."""
    if word == "line":
        return "\n"
    if word == "cat":
        return texts[0] + texts[1]
    if word == "up":
        return texts[0].upper()
    if word == "size":
        return str(len(texts[0]))
    if word == "has":
        return YES if texts[1] in texts[0] else ""
    if word == "same":
        return YES if texts[0] == texts[1] else ""
    return YES if texts[0] == "" else ""


def _made(text):
    """Return the result of a text."""
    return ("made", text) if len(text) <= MOST_SIGNS else ("bad", "long")
