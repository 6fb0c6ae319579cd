"""The lines of settings files, and what they settle."""

from releasehouse.errors import BadFile
from releasehouse.lines import told_lines
from releasehouse.values import is_word


def setting_of(parts):
    """Return the triple (word, name, words) that a line of settings tells, or None."""
    if parts == ["end"]:
        return ("end", "", ())
    words = [part for part in parts if is_word(part)]
    if len(parts) == 2 and parts[0] == "drop" and len(words) == 2:
        return ("drop", parts[1], ())
    if len(parts) == 4 and parts[0] == "when" and parts[2] == "is" and len(words) == 4:
        return ("when", parts[1], (parts[3],))
    if len(parts) >= 3 and parts[1] in ("=", "+=") and len(words) == len(parts) - 1:
        return (parts[1], parts[0], tuple(parts[2:]))
    return None


def read_settings(files):
    """Return the triples of all settings lines in order; BadFile for the first wrong line."""
    rows = told_lines(files, "set/")
    last_ends = {path: number for path, number, parts in rows if parts == ["end"]}
    settings = []
    within = False
    for path, number, parts in rows:
        setting = setting_of(parts)
        if setting is None:
            raise BadFile(path, number)
        if setting[0] == "when":
            if within or last_ends.get(path, 0) < number:
                raise BadFile(path, number)
            within = True
        elif setting[0] == "end":
            if not within:
                raise BadFile(path, number)
            within = False
        settings.append(setting)
    return settings


def settle(settings, facts):
    """Return the dict of keys and their items that the settings make with these facts."""
    items_of = {}
    pairs = [tuple(pair) for pair in facts]
    holds = True
    for word, name, words in settings:
        if word == "when":
            holds = (name, words[0]) in pairs
        elif word == "end":
            holds = True
        elif holds and word == "=":
            items_of[name] = words
        elif holds and word == "+=":
            items_of[name] = items_of.get(name, ()) + words
        elif holds:
            items_of.pop(name, None)
    return items_of
