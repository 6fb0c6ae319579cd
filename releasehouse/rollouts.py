"""Rollouts: a release on its way to the places, wave by wave, or on its way back."""


class Rollout:
    """A release that goes out or back, and what is noted of its places.

    Waves has the names of all places, wave by wave; the last wave has those
    that the release has no place for (perhaps none).
    """

    def __init__(self, number, places, runs):
        self.number = number
        self.outward = True
        self.waves = _waves_of(places, runs)
        self.aims = {name: number for name, _, _ in places}
        self.ran = {name: runs.get(name) for wave in self.waves for name in wave}
        self.fetched = {}
        self.well = {}


def _waves_of(places, runs):
    """Return the names of these places, wave by wave, and behind them those of others that run something."""
    names = [name for name, _, _ in places]
    numbers = sorted(set([wave for _, wave, _ in places]))
    waves = [[name for name, wave, _ in places if wave == number] for number in numbers]
    waves.append([name for name in sorted(runs) if runs[name] is not None and name not in names])
    return waves


def stepped(rollout, runs):
    """Do the next step of a rollout, and return its string.

    Runs is a dict with what each place runs, which is changed by a switch.
    """
    if rollout.outward:
        name = _next_out(rollout, runs)
        aims = rollout.aims
    else:
        name = _next_back(rollout, runs)
        aims = rollout.ran
    if name is None:
        return "done" if rollout.outward else "back"
    aim = aims.get(name)
    if runs.get(name) == aim:
        return f"wait {name}"
    if aim is not None and rollout.fetched.get(name) != aim:
        rollout.fetched[name] = aim
        return f"fetch {name}"
    rollout.fetched.pop(name, None)
    runs[name] = aim
    return f"switch {name}"


def turn_back(rollout):
    """Let a rollout go back from now on."""
    rollout.outward = False
    rollout.fetched = {}


def shown(rollout, runs):
    """Return the triple (release, way, places) that tells of a rollout."""
    rows = []
    for wave in rollout.waves:
        for name in wave:
            fetched = rollout.fetched.get(name)
            rows.append((name, rollout.ran[name], runs.get(name), fetched, name in rollout.well))
    return (rollout.number, "out" if rollout.outward else "back", tuple(rows))


def _next_out(rollout, runs):
    """Return the first place that is to be switched or waited for, wave by wave, or None."""
    for wave in rollout.waves:
        for name in wave:
            if runs.get(name) != rollout.aims.get(name):
                return name
        for name in wave:
            if name in rollout.aims and name not in rollout.well:
                return name
    return None


def _next_back(rollout, runs):
    """Return the last place that does not run what it ran, or None."""
    names = [name for wave in rollout.waves for name in wave]
    for name in reversed(names):
        if runs.get(name) != rollout.ran[name]:
            return name
    return None
