"""Trees, edits, proposals and packages that are drawn, from a world in which much goes well and much wrong."""

from releasehouse.trees import Tree, edited

from helpers import ended

RULES = ended(
    "target out = cat file app/main set color",
    "target all = cat each app names doc",
    "test fine = has dep out lit run",
)
MORE_RULES = (
    "target more = cat dep out pack lib\n",
    ended("target more = if set hue file app/more file app/other", "test still = not same dep more lit no"),
    ended("target more = up dep all", "test hue = has set color lit e"),
    "test lib = has pack lib lit lib\n",
    "target more = dep gone\n",
)
CHOICES = {
    "app/main": ("run", "run fast", "walk", "run\nrun", None),
    "app/more": ("more", "no", None),
    "app/other": ("x", "no", "", None),
    "build/all": (RULES, RULES, RULES + "target last = set hue\n"),
    "build/more": MORE_RULES + (None,),
    "doc/a": ("", "a", None),
    "fleet/places": (
        ended("place north 1", "place south 2 land=fr"),
        ended("place east 2", "place north 2", "place south 1 land=fr"),
        ended("place north 1 kind=shop land=de", "place west 3 land=fr"),
        "place", "", None,
    ),
    "own/rules": (
        "own app 1 ann bob\n", ended("own app 1 ann", "own set 1 bob eve"), "own all/ 1 ann bob eve\n", "own app 4 ann",
        "", None,
    ),
    "pack/goals": ("need lib 1 9\n", "need lib 1 1\n", "need tool 1 9\n", "need none 1 1\n", "", None),
    "set/all": (
        "color = red\n", ended("color = red", "when land is fr", "color = blue", "hue = dark", "end"), "color += blue\n",
        "end", None,
    ),
}
# Of each path the choices that are right and can stand in a first tree.
FIRST = {
    "app/main": ("run", "run fast"), "app/more": ("more", None), "app/other": ("x", "", None),
    "build/all": (RULES,), "build/more": (None,), "doc/a": ("", "a", None), "fleet/places": CHOICES["fleet/places"][:3],
    "own/rules": CHOICES["own/rules"][:3] + (None,), "pack/goals": ("need lib 1 9\n", "", None),
    "set/all": CHOICES["set/all"][:2],
}
PACKAGES = (
    ("lib", 1, (), "lib one"),
    ("lib", 2, (("tool", 2, 3),), "lib two\n"),
    ("lib", 3, (), "new"),
    ("none", 1, (("none", 2, 2),), ""),
    ("tool", 1, (), "x" * 1000),
    ("tool", 2, (("lib", 1, 2),), ""),
)
REGISTRY = (PACKAGES[0], PACKAGES[4])
NAMES = ("ann", "bob", "eve", "joe")


def first_of(chance):
    """Return a tree with which a house can begin, with REGISTRY."""
    files = {path: chance.choice(choices) for path, choices in FIRST.items()}
    return Tree(tuple((path, content) for path, content in sorted(files.items()) if content is not None))


def edit_of(chance, paths=None):
    """Return an edit of a few paths, mostly one that can land."""
    edit = []
    named = sorted(CHOICES) if paths is None else paths
    for path in sorted(chance.sample(named, chance.choice((0, 1, 1, 1, 2, 2, 3)))):
        content = chance.choice((FIRST if chance.random() < 0.5 else CHOICES)[path])
        edit.append(("drop", path) if content is None else ("put", path, content))
    return tuple(edit)


def head_of(chance):
    """Return (head, base): a first tree, and one from which the head was changed, or the same."""
    base = first_of(chance)
    return (edited(base, edit_of(chance)) if chance.random() < 0.6 else base, base)


def proposal_of(chance, base):
    """Return a proposal that is made on the base."""
    given = tuple(sorted(chance.sample(NAMES, chance.choice((0, 1, 2, 2, 3, 3)))))
    return (base, edit_of(chance), chance.choice(NAMES), given)
