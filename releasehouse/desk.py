"""Desks: texts and a house that are led by commands, and logs of them."""

from releasehouse.building import failing
from releasehouse.commands import command_of
from releasehouse.errors import BadFile, BadSyntax, BadValue, NoSolution
from releasehouse.files import place_named
from releasehouse.houses import House
from releasehouse.landing import first_bad
from releasehouse.texts import parse

# Where the name of a text that has to be known stands behind the word of a command.
TEXT_AT = {"clear": 0, "show": 0, "start": 0, "pack": 0, "propose": 1}
NEED_NO_HOUSE = ("line", "clear", "show", "start")
NOTHING = "none"


class Desk:
    """Texts by their names, a house once it is begun, and a log."""

    def __init__(self):
        self._texts = {}
        self._commands = []
        self._house = None

    @property
    def house(self):
        """The house, or None."""
        return self._house

    def run(self, command):
        """Do a command and return what it says; BadSyntax(0) if it has none of the forms."""
        told = command_of(command)
        if told is None:
            raise BadSyntax(0)
        word, values = told
        said = self._answer(word, values)
        self._commands.append(command)
        return said

    def log(self):
        """Return the commands that were run, each ended by a line feed."""
        return "".join([command + "\n" for command in self._commands])

    @classmethod
    def replayed(cls, log):
        """Return a desk that has run the commands of a log."""
        if not isinstance(log, str):
            raise BadValue(1)
        commands = log.split("\n")
        unended = commands.pop()
        for at, command in enumerate(commands):
            if command_of(command) is None:
                raise BadSyntax(at)
        if unended != "":
            raise BadSyntax(len(commands))
        desk = cls()
        for command in commands:
            desk.run(command)
        return desk

    def _answer(self, word, values):
        """Return what a command says, errors told in words."""
        if word in TEXT_AT and values[TEXT_AT[word]] not in self._texts:
            return "error Unknown"
        if word not in NEED_NO_HOUSE and self._house is None:
            return "error NoHouse"
        try:
            return self._done(word, values)
        except BadValue:
            return "error BadValue"
        except BadFile:
            return "error BadFile"
        except NoSolution:
            return "error NoSolution"
        except BadSyntax:
            return "error BadSyntax"

    def _done(self, word, values):
        """Do a command for which all that it names is there."""
        if word == "show":
            return self._texts[values[0]]
        if word == "pack":
            return self._house.pack(parse(self._texts[values[0]]))
        if word == "propose":
            base, name, author, given = values
            return self._house.propose(base, parse(self._texts[name]), author, given)
        if word not in NEED_NO_HOUSE:
            return answer_of(self._house, word, values)
        if word == "line":
            self._texts[values[0]] = self._texts.get(values[0], "") + values[1] + "\n"
        elif word == "clear":
            self._texts[values[0]] = ""
        else:
            self._house = House(parse(self._texts[values[0]]))
        return "ok"


def answer_of(house, word, values):
    """Return what a house says to a command that names no text."""
    if word == "land":
        return house.land()
    if word == "release":
        return house.release()
    if word == "begin":
        return house.begin(values[0])
    if word == "step":
        return house.step()
    if word == "report":
        return house.report(values[0], values[1])
    if word == "halt":
        return house.halt()
    if word == "lost":
        return house.lost()
    if word == "cut":
        return house.cut(values[0])
    return answer_seen(house, word, values)


def answer_seen(house, word, values):
    """Return what a house says to a command that only looks."""
    if word == "work":
        return str(house.work)
    if word == "runs":
        number = house.runs(values[0])
        return NOTHING if number is None else str(number)
    if word == "failing":
        return failing_at(house, values[0])
    first = first_bad(house.history, house.registry, values[0], values[1])
    return NOTHING if first is None else str(first)


def failing_at(house, name):
    """Return the newest tree's tests that do not pass at a place, with the registry as it is now."""
    tree = house.history[-1]
    place = place_named(tree, name)
    if place is None:
        raise BadValue(1)
    names = failing(tree, place[2], house.registry)
    return ",".join(names) if names else NOTHING
