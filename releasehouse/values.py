"""The kinds of values that the package tells apart.

True and False are no integers here, and a string is no sequence.
"""

MOST_WORD_SIGNS = 12
MOST_PATH_WORDS = 4
MOST_CONTENT_SIGNS = 1000
MOST_FACTS = 4
PERCENT_NUMBER = 37


def is_integer(value):
    """Tell whether the value is an integer."""
    return isinstance(value, int) and not isinstance(value, bool)


def is_sequence(value):
    """Tell whether the value is a list or a tuple."""
    return isinstance(value, (list, tuple))


def is_row(value, length):
    """Tell whether the value is a sequence of this length."""
    return is_sequence(value) and len(value) == length


def is_shown(value):
    """Tell whether the value is a string of printable ASCII without the percent sign."""
    if not isinstance(value, str) or not value.isascii() or not value.isprintable():
        return False
    return PERCENT_NUMBER not in [ord(sign) for sign in value]


def is_word(value):
    """Tell whether the value is a word."""
    if not isinstance(value, str) or not 1 <= len(value) <= MOST_WORD_SIGNS:
        return False
    if not value.isascii() or not value.isalnum() or not value[0].isalpha():
        return False
    return value == value.lower()


def is_path(value):
    """Tell whether the value is a path."""
    if not isinstance(value, str):
        return False
    words = value.split("/")
    return len(words) <= MOST_PATH_WORDS and all([is_word(word) for word in words])


def is_signs(value, most):
    """Tell whether the value is a string of at most so many signs, all such as contents have."""
    return isinstance(value, str) and len(value) <= most and is_shown(value.replace("\n", ""))


def is_content(value):
    """Tell whether the value is a content."""
    return is_signs(value, MOST_CONTENT_SIGNS)


def is_ascending(keys):
    """Tell whether each of the keys, all of one kind, is less than the next one."""
    return all([key < later for key, later in zip(keys, keys[1:])])


def is_facts(value):
    """Tell whether the value is a sequence of facts, each with its word."""
    if not is_sequence(value) or len(value) > MOST_FACTS:
        return False
    if not all([is_row(pair, 2) and is_word(pair[0]) and is_word(pair[1]) for pair in value]):
        return False
    return is_ascending([pair[0] for pair in value])


def digit_of(text):
    """Return the number of a string that is one digit, and -1 for any other string."""
    return int(text) if len(text) == 1 and text in "0123456789" else -1


def plain(value):
    """Return the value with a plain tuple for each list and tuple in it."""
    if is_sequence(value):
        return tuple([plain(part) for part in value])
    return value
