"""What is asked of names, while packages are picked one by one.

What is asked is a dict: for each name a tuple of spans (low, high, asker),
asker being the name whose pick asks it, or None for the goals.
"""


def needs_by_name(registry):
    """Return for each name a dict of its versions, ascending, and their needs."""
    packs = {}
    for name, version, needs, _ in registry:
        packs.setdefault(name, {})[version] = needs
    return packs


def asked_with(asked, needs, asker):
    """Return what is asked when these needs are asked, too."""
    more = dict(asked)
    for name, low, high in needs:
        more[name] = more.get(name, ()) + ((low, high, asker),)
    return more


def first_against(spans, version):
    """Return the first of the spans that the version does not lie in, or None."""
    for span in spans:
        if not span[0] <= version <= span[1]:
            return span
    return None


def versions_left(packs, asked, name):
    """Return the versions of an asked name, ascending, that lie in all its spans."""
    spans = asked[name]
    return [version for version in packs.get(name, {}) if first_against(spans, version) is None]
