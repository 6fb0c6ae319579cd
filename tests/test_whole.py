"""The guarantees 1 to 13 over houses that are led by long rows of drawn acts."""

import random
import unittest

from releasehouse.building import built, failing, rebuilt, traces
from releasehouse.errors import BadFile, NoSolution
from releasehouse.files import asked_facts, check, goals, places, rules, settled
from releasehouse.houses import House
from releasehouse.landing import first_bad, land_all, landing, sound
from releasehouse.owners import approvals, approved
from releasehouse.packages import refutes, solved
from releasehouse.proofs import paper_holds, trace_holds
from releasehouse.reach import reach, unturned, why
from releasehouse.texts import parse, printed
from releasehouse.trees import edited, merged, touched

from drawn import CHOICES, NAMES, PACKAGES, REGISTRY, edit_of, first_of
from helpers import Asking, listed, plain_only
from model import Model, landing_again
from test_first_bad import is_bad

PLACES = ("east", "north", "south", "west", "zoo")
WRONG = (
    ("pack", (("lib", 0, (), ""),)), ("propose", (99, (), "joe", ())), ("propose", (0, None, "joe", ())),
    ("propose", (0, (), "Joe", ())), ("propose", (0, (), "joe", "ann")), ("begin", ("0",)), ("report", ("North", "well")),
    ("report", ("north", "good")), ("cut", (None,)), ("runs", (1,)), ("running", ("",)), ("wave", ((),)), ("paper", (True,)),
)


def act_of(chance, house):
    """Return an act: its name, and its arguments."""
    word = chance.choice(("pack", "release", "begin", "halt", "lost", "cut", "wrong") + ("land",) * 4 + ("propose",) * 4 + ("step",) * 9)
    if word == "pack":
        return ("pack", (chance.choice(PACKAGES),))
    if word == "propose":
        base = chance.choice((0, len(house.history) - 1, len(house.history) - 1))
        given = tuple(sorted(chance.sample(NAMES, chance.choice((0, 2, 3, 3, 4)))))
        return ("propose", (base, edit_of(chance), chance.choice(NAMES), given))
    if word == "begin":
        return ("begin", (chance.randint(0, len(house.releases)),))
    if word == "cut":
        return ("cut", (chance.choice(PLACES),))
    if word == "wrong":
        return chance.choice(WRONG)
    if word == "step" and house.rollout is not None and chance.random() < 0.4:
        unwell = [row[0] for row in house.rollout[2] if row[2] == house.rollout[0] and not row[4]]
        if unwell:
            return ("report", (unwell[0], chance.choice(("well",) * 12 + ("ill",))))
    return (word, ())


def seen(house):
    """Return all that can be seen of a house, papers aside."""
    looks = [(house.runs(place), house.running(place), house.wave(place)) for place in PLACES]
    return [
        house.history, house.registry, house.landings, house.waiting, house.work, house.releases, house.rollout, looks,
    ]


def modelled(model):
    """Return the same of a model."""
    looks = [(model.runs(place), model.running(place), model.wave(place)) for place in PLACES]
    return [
        tuple(model.trees), model.registry, tuple(model.landings), len(model.row), model.work, tuple(model.cut_of),
        model.rollout(), looks,
    ]


class LedTest(Asking, unittest.TestCase):

    def test_led_by_drawn_acts(self):
        chance = random.Random(1)
        said = {}
        for _ in range(25):
            tree = first_of(chance)
            self.house, self.other, self.model = House(tree, REGISTRY), House(tree, listed(REGISTRY)), Model(tree, REGISTRY)
            self.ahead = None
            for _ in range(chance.randint(40, 160)):
                name, values = act_of(chance, self.house)
                word = self.act(name, values).split(" ")[0]
                said[word] = said.get(word, 0) + 1
                self.looked_at()
            self.told_at_the_end(chance)
        wanted = "ok known none open landed clash file own packs test fetch switch wait done back error".split(" ")
        self.assertLessEqual(set(wanted), set(said))

    def act(self, name, values):
        """Do an act on both houses and on the model, and compare them."""
        if (name, values) in WRONG:
            before = seen(self.house)
            places_told = [at for at in (1, 2, 3, 4) if self.raises(at, name, values)]
            self.assertEqual(len(places_told), 1)
            self.same(seen(self.house), before)
            return "error"
        if name == "land":
            self.landing_looked_at()
        if name == "begin" and self.house.rollout is None:
            self.ahead = [self.house.running(place) for place in PLACES]
        answer = getattr(self.house, name)(*values)
        self.same(getattr(self.other, name)(*listed(values)), answer)
        self.same(getattr(self.model, name)(*values), answer)
        self.same(seen(self.house), modelled(self.model))
        self.same(seen(self.other), seen(self.house))
        self.assertTrue(plain_only(tuple(seen(self.house)[:-1])))
        if answer == "back":
            # Ways back: the very results, whatever landed since.
            self.same([self.house.running(place) for place in PLACES], self.ahead)
        if answer == "done":
            self.at_its_places_alone()
        if answer.startswith("landed"):
            self.what_landed()
        return answer

    def raises(self, at, name, values):
        """Tell whether the act raises BadValue with this place."""
        try:
            self.bad_value(at, getattr(self.house, name), *values)
        except AssertionError:
            return False
        return True

    def landing_looked_at(self):
        """Points 2, 4 and 5, of the proposal that is to land."""
        if not self.model.row:
            return
        head, registry, proposal = self.house.history[-1], self.house.registry, self.model.row[0]
        word, more = landing(head, registry, proposal)
        self.same((word, more), landing_again(head, registry, proposal))
        if word != "landed":
            return
        landed_so = self.model.landings and self.model.landings[-1][0] == registry
        had = [facts for _, _, facts in places(head)]
        store = self.model.store
        for _, _, facts in places(more):
            results, fresh, store = rebuilt(more, facts, registry, store)
            self.same(results, built(more, facts, registry))
            if landed_so and facts in had:
                self.assertLessEqual(set(fresh), set(reach(head, more, facts, registry)))

    def at_its_places_alone(self):
        """Behind a rollout that came to its end its release is at all places of its tree, and nothing at the others."""
        numbers = {self.house.runs(place) for place in PLACES} - {None}
        self.assertLessEqual(len(numbers), 1)
        for number in numbers:
            tree = self.house.history[self.house.releases[number][0]]
            self.assertEqual({place for place in PLACES if self.house.runs(place) is not None}, {row[0] for row in places(tree)})

    def what_landed(self):
        """Point 2, of the newest tree."""
        tree = self.house.history[-1]
        registry, proposal = self.house.landings[-1]
        self.assertIsNone(check(tree))
        self.same(approved(self.house.history[-2], tree, proposal[2], proposal[3])[0], "yes")
        self.same(solved(registry, goals(tree))[0], "solution")
        for _, _, facts in places(tree):
            self.same(failing(tree, facts, registry), ())
        self.same(sound(self.house.history[-2:], self.house.landings[-1:]), True)

    def looked_at(self):
        """Points 1, 6, 10 and 12, of what runs."""
        house = self.house
        numbers = {house.runs(place) for place in PLACES} - {None}
        self.assertLessEqual(len(numbers), 1 if house.rollout is None else 2)
        by_facts = {}
        for place in PLACES:
            number = house.runs(place)
            if number is None:
                self.same((house.running(place), house.paper(place), house.wave(place)), (None, None, None))
                continue
            at, registry = house.releases[number]
            tree = house.history[at]
            self.same(registry, house.landings[at - 1][0] if at > 0 else REGISTRY)
            wave, facts = [row[1:] for row in places(tree) if row[0] == place][0]
            targets = [name for word, name, _ in rules(tree) if word == "target"]
            results = tuple(pair for pair in built(tree, facts, registry) if pair[0] in targets)
            self.same(house.running(place), results)
            self.same(house.wave(place), wave)
            self.same(failing(tree, facts, registry), ())
            paper = house.paper(place)
            self.same(paper, (at, registry, facts, traces(tree, facts, registry)))
            self.same(paper_holds(tree, facts, registry, paper[3]), True)
            self.assertTrue(all(trace_holds(trace) for _, trace in paper[3]))
            known = tuple(pair for pair in facts if pair[0] in asked_facts(tree))
            self.same(by_facts.setdefault((number, known), results), results)

    def told_at_the_end(self, chance):
        house = self.house
        self.same(sound(house.history, house.landings), True)
        for at in range(1, len(house.history)):
            trees = list(house.history)
            trees[at] = edited(trees[at], (("put", "zoo", "x"),))
            self.same(sound(trees, house.landings), False)
        for place in PLACES[:3]:
            for name in ("out", "fine", "more", "lib"):
                bad = [is_bad(tree, house.registry, place, name) for tree in house.history]
                firsts = [at for at in range(len(bad)) if all(bad[at:])]
                self.same(first_bad(house.history, house.registry, place, name), firsts[0] if firsts else None)
        self.same(rebuilt(house.history[-1], (), house.landings[-1][0] if house.landings else REGISTRY, self.model.store)[0],
                  built(house.history[-1], (), house.landings[-1][0] if house.landings else REGISTRY))
        self.goes_on_to_its_end(chance)

    def goes_on_to_its_end(self, chance):
        """Point 9: no more cuts, and whoever is waited for is told well."""
        if self.house.rollout is None:
            return
        for _ in range(200):
            said = self.act("step", ())
            if said in ("done", "back"):
                break
            if said.startswith("wait "):
                self.same(self.act("report", (said[5:], "well")), "ok")
        self.assertIsNone(self.house.rollout)
        self.looked_at()

    def test_as_land_all_if_no_package_was_added(self):
        chance = random.Random(2)
        for _ in range(30):
            tree = first_of(chance)
            house = House(tree, REGISTRY)
            proposals = [(tree, edit_of(chance), chance.choice(NAMES), NAMES[:3]) for _ in range(12)]
            for proposal in proposals:
                self.same(house.propose(0, *proposal[1:]), "ok")
            words = [house.land().split(" ")[0] for _ in proposals]
            answers, trees = land_all(tree, REGISTRY, proposals)
            self.same(words, [word for word, _ in answers])
            self.same(house.history, trees)
            self.same(house.land(), "none")

    def test_bounced_by_a_test_and_made_again_at_once(self):
        chance = random.Random(4)
        bounced = 0
        while bounced < 25:
            house = House(first_of(chance), REGISTRY)
            for _ in range(8):
                proposal = (len(house.history) - 1, edit_of(chance), "joe", NAMES[:3])
                house.propose(*proposal)
                said = house.land()
                if said.startswith("test "):
                    bounced += 1
                    before = house.work
                    house.propose(*proposal)
                    self.same(house.land(), said)
                    self.same(house.work, before)

    def test_a_store_that_is_handed_on_has_no_fresh_names(self):
        chance = random.Random(47)
        for _ in range(40):
            store = ()
            for _ in range(5):
                tree = edited(first_of(chance), edit_of(chance))
                facts = chance.choice(((), (("land", "fr"),)))
                try:
                    results, fresh, after = rebuilt(tree, facts, REGISTRY, store)
                except (BadFile, NoSolution):
                    continue
                self.same(results, built(tree, facts, REGISTRY))
                pairs = dict(traces(tree, facts, REGISTRY))
                self.same(fresh, tuple(name for name in pairs if pairs[name] not in store))
                self.same(rebuilt(tree, facts, REGISTRY, after), (results, (), after))
                store = after


class ChangesTest(Asking, unittest.TestCase):
    """What an edit cannot reach, and of the parts what hangs together."""

    def test_unturned_and_why(self):
        chance = random.Random(5)
        count = 0
        while count < 150:
            old = first_of(chance)
            new = edited(old, edit_of(chance))
            facts = chance.choice(((), (("land", "fr"),)))
            try:
                before, now = traces(old, facts, REGISTRY), traces(new, facts, REGISTRY)
            except (BadFile, NoSolution):
                continue
            count += 1
            words = [{name: word for word, name, _ in rules(tree)} for tree in (old, new)]
            had, has = dict(before), dict(now)
            wanted = tuple(name for name in has if words[0].get(name) == words[1][name] and had[name] == has[name])
            self.same(unturned(old, new, facts, REGISTRY), wanted)
            self.same(reach(old, new, facts, REGISTRY), tuple(name for name in has if name not in wanted))
            _, fresh, _ = rebuilt(new, facts, REGISTRY, tuple(had.values()))
            self.assertFalse(set(fresh) & set(wanted))
            if rules(old) == rules(new):
                for name in has:
                    if not why(old, facts, REGISTRY, name, touched(old, new)):
                        self.assertIn(name, wanted)

    def test_checks_and_what_readers_raise(self):
        chance = random.Random(17)
        for _ in range(150):
            tree = edited(first_of(chance), edit_of(chance))
            wrong = []
            for read in (lambda: settled(tree, ()), lambda: goals(tree), lambda: rules(tree), lambda: approvals(tree, "a"),
                         lambda: places(tree)):
                try:
                    read()
                except BadFile as bad:
                    wrong.append((bad.path, bad.at))
            self.same(check(tree), min(wrong) if wrong else None)
            self.same(parse(printed(tree)), tree)

    def test_packages_that_are_added(self):
        chance = random.Random(15)
        for _ in range(150):
            tree = edited(first_of(chance), (("put", "pack/goals", chance.choice(CHOICES["pack/goals"]) or ""),))
            fewer = tuple(sorted(chance.sample(PACKAGES, 3)))
            more = tuple(sorted(set(fewer) | set(chance.sample(PACKAGES, 2))))
            answers = [solved(registry, goals(tree)) for registry in (fewer, more)]
            for registry, (word, paper) in zip((fewer, more), answers):
                self.same(refutes(registry, goals(tree), paper), word == "none")
            self.assertFalse(answers[0][0] == "solution" and answers[1][0] == "none")

    def test_merges_both_ways(self):
        chance = random.Random(14)
        for _ in range(150):
            base = first_of(chance)
            ours, theirs = edited(base, edit_of(chance)), edited(base, edit_of(chance))
            self.same(merged(base, ours, theirs), merged(base, theirs, ours))
            self.same(merged(base, ours, base), ("tree", ours))


if __name__ == "__main__":
    unittest.main()
