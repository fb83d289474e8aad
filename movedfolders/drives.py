"""Drives: real things that are added, moved and dropped, with plans, guards, checkpoints and records."""

from movedfolders.checker import first_fault
from movedfolders.claims import decide
from movedfolders.derivations import derive, thing_costs
from movedfolders.errors import (
    Holds, InvalidContent, InvalidDeeds, InvalidHouse, LimitExceeded, NotAFolder, NotLet, Reachable, Refused,
    UnknownCheckpoint, UnknownGuard, UnknownItem, UnknownRecord, UnknownThing, Within,
)
from movedfolders.forecasts import rows_of
from movedfolders.houses import are_contents, is_content, is_kind, require_house
from movedfolders.integers import is_index, is_integer
from movedfolders.kinds import after
from movedfolders.levels import path_levels, reached
from movedfolders.plans import are_deeds, plan_along
from movedfolders.rules import is_folder, is_item, letting_rule, require_rules
from movedfolders.tables import table_of
from movedfolders.trees import MOST_THINGS, ROOT, path_items, path_of
from movedfolders.unfolding import MOST_MOVES
from movedfolders.ways import way_along

MOST_CHECKPOINTS = 4
MOST_GUARDS = 8
MOST_RECORDS = 8


class Drive:
    """A house, rules, and things with numbers that lie in the root and in one another."""

    def __init__(self, house, rules=()):
        self._settle(require_house(house), require_rules(house, rules))
        # By its number each thing has (item, above), each guard (thing, contents, table).
        self._things = {}
        self._next_thing = 0
        self._guards = {}
        self._next_guard = 0
        self._checkpoints = []
        self._certificates = []

    def __len__(self):
        return len(self._things)

    def __contains__(self, number):
        return is_integer(number) and number in self._things

    def add(self, item, above=-1):
        """Add a thing and return its number."""
        if not is_item(self._house, item):
            raise UnknownItem(item)
        self._require_place(above)
        if len(self._things) >= MOST_THINGS:
            raise LimitExceeded(MOST_THINGS)
        number = self._next_thing
        self._things[number] = (item, above)
        self._next_thing = number + 1
        return number

    def drop(self, thing):
        """Take out a thing in which nothing lies, and its guards."""
        self._require_thing(thing)
        if any([above == thing for _, above in self._things.values()]):
            raise Holds(thing)
        del self._things[thing]
        self._guards = {number: self._guards[number] for number in self._guards if self._guards[number][0] != thing}

    def move(self, thing, target=-1):
        """Move a thing and return the least index of a rule that lets it."""
        self._require_thing(thing)
        self._require_place(target)
        if thing in path_of(self._things, target):
            raise Within(target)
        item = self.item(thing)
        rule = letting_rule(self._rules, item, self.content(thing), self._place_content(target))
        if rule is None:
            raise NotLet(thing)
        self._things[thing] = (item, target)
        return rule

    def perform(self, deeds):
        """Do all deeds and return what each one returns; do nothing if one of them raises an error."""
        if not are_deeds(deeds):
            raise InvalidDeeds()
        before = self._state()
        told = []
        for index, deed in enumerate(deeds):
            try:
                told.append(self._do(deed))
            except (UnknownItem, UnknownThing, NotAFolder, Holds, Within, NotLet, LimitExceeded) as e:
                self._bring_back(before)
                raise Refused(index) from e
        return tuple(told)

    def things(self):
        """Return the ascending tuple of the numbers."""
        return tuple(sorted(self._things))

    def item(self, thing):
        """Return the item of a thing."""
        self._require_thing(thing)
        return self._things[thing][0]

    def above(self, thing):
        """Return the number of the folder in which a thing lies, -1 for the root."""
        self._require_thing(thing)
        return self._things[thing][1]

    def content(self, thing):
        """Return the content of a thing."""
        return self._place_content(self.above(thing))

    def inside(self, thing):
        """Return the content of a folder's inside."""
        self._require_thing(thing)
        self._require_place(thing)
        return self._place_content(thing)

    def path(self, thing):
        """Return the numbers of a thing's path, from the root down, itself last."""
        self._require_thing(thing)
        return path_of(self._things, thing)

    def below(self, thing):
        """Return the ascending tuple of all that lies below a thing."""
        self._require_thing(thing)
        return tuple([number for number in self.things() if thing in path_of(self._things, number)[:-1]])

    def house(self):
        """Return the house as it is."""
        return self._house

    def rules(self):
        """Return the rules as they are."""
        return self._rules

    def snapshot(self):
        """Return (tree, numbers), the things in ascending order of their numbers."""
        numbers = self.things()
        places = {number: index for index, number in enumerate(numbers)}
        places[ROOT] = ROOT
        tree = [(item, places[above]) for item, above in [self._things[number] for number in numbers]]
        return (tuple(tree), numbers)

    def forecast(self, thing):
        """Return the ascending tuple of (content, moves, things) that a thing can come to have."""
        self._require_thing(thing)
        return rows_of(reached(self._levels(thing)))

    def fewest(self, thing, content):
        """Return (moves, things) of the forecast for a content, or None."""
        self._require_thing(thing)
        self._require_content(content)
        return reached(self._levels(thing)).get(content)

    def plan(self, thing, content):
        """Return the deeds by which a thing comes to a content, or None if it never does."""
        cost = self.fewest(thing, content)
        if cost is None:
            return None
        moves, things = cost
        if moves > MOST_MOVES or len(self._things) + things > MOST_THINGS:
            raise LimitExceeded(MOST_THINGS)
        way = way_along(self._derived(), self._levels(thing), path_items(self._things, thing), content)
        return plan_along(self.path(thing), way, self._next_thing)

    def set_rules(self, rules):
        """Put other rules in the place of those that are there."""
        self._settle(self._house, require_rules(self._house, rules))

    def set_kind(self, index, kind):
        """Put a kind in the place of one."""
        sizes, begin, kinds = self._house
        if not is_index(index, len(kinds)):
            raise UnknownItem(index)
        if not is_kind(sizes, kind):
            raise InvalidHouse(("kind", index))
        self._settle((sizes, begin, kinds[:index] + (kind,) + kinds[index + 1:]), self._rules)

    def checkpoint(self):
        """Keep house, rules, things, guards and the numbers that come next; return the checkpoint's number."""
        if len(self._checkpoints) >= MOST_CHECKPOINTS:
            raise LimitExceeded(MOST_CHECKPOINTS)
        self._checkpoints.append(self._state())
        return len(self._checkpoints) - 1

    def restore(self, number):
        """Bring back what a checkpoint keeps."""
        if not is_index(number, len(self._checkpoints)):
            raise UnknownCheckpoint(number)
        self._bring_back(self._checkpoints[number])

    def guard(self, thing, contents):
        """Make a guard that a thing never comes to some contents; return its number."""
        self._require_thing(thing)
        if not are_contents(self._house[0], contents):
            raise InvalidContent(contents)
        if len(self._guards) >= MOST_GUARDS:
            raise LimitExceeded(MOST_GUARDS)
        reach = reached(self._levels(thing))
        for content in contents:
            if content in reach:
                raise Reachable(content)
        number = self._next_guard
        self._guards[number] = (thing, contents, table_of(self._derived()))
        self._next_guard = number + 1
        return number

    def guards(self):
        """Return the ascending tuple of the numbers of the guards."""
        return tuple(sorted(self._guards))

    def guarded(self, number):
        """Return (thing, contents, table) of a guard."""
        if not is_integer(number) or number not in self._guards:
            raise UnknownGuard(number)
        return self._guards[number]

    def holding(self, number):
        """Return None if a guard holds, else its first fault now."""
        thing, contents, table = self.guarded(number)
        tree, numbers = self.snapshot()
        claim = ("never", self._rules, tree, numbers.index(thing), contents)
        return first_fault(self._house, ("shown", claim, table))

    def decide(self, claim):
        """Return a certificate for a claim about the house as it is."""
        return decide(self._house, claim)

    def record(self, claim):
        """Decide a claim, keep the certificate and return the record's number."""
        if len(self._certificates) >= MOST_RECORDS:
            raise LimitExceeded(MOST_RECORDS)
        self._certificates.append(decide(self._house, claim))
        return len(self._certificates) - 1

    def records(self):
        """Return how many records there are."""
        return len(self._certificates)

    def recorded(self, number):
        """Return the certificate of a record."""
        if not is_index(number, len(self._certificates)):
            raise UnknownRecord(number)
        return self._certificates[number]

    def standing(self, number):
        """Return None if a record stands, else its first fault now."""
        return first_fault(self._house, self.recorded(number))

    def _settle(self, house, rules):
        """Take a house and rules; what was derived by others is of no use any more."""
        self._house = house
        self._rules = rules
        self._found = None

    def _derived(self):
        """Return what the house and the rules of now derive, found once for them."""
        if self._found is None:
            self._found = derive(self._house, self._rules)
        return self._found

    def _levels(self, thing):
        costs = thing_costs(self._derived())
        return path_levels(self._house, self._rules, costs, path_items(self._things, thing))

    def _place_content(self, place):
        return after(self._house, self._house[1], path_items(self._things, place))

    def _require_thing(self, number):
        if number not in self:
            raise UnknownThing(number)

    def _require_place(self, number):
        if number == ROOT:
            return
        self._require_thing(number)
        if not is_folder(self._house, self._things[number][0]):
            raise NotAFolder(number)

    def _require_content(self, value):
        if not is_content(self._house[0], value):
            raise InvalidContent(value)

    def _do(self, deed):
        if deed[0] == "add":
            return self.add(deed[1], deed[2])
        if deed[0] == "move":
            return self.move(deed[1], deed[2])
        return self.drop(deed[1])

    def _state(self):
        """Return what a checkpoint keeps."""
        return (
            self._house, self._rules, dict(self._things), self._next_thing, dict(self._guards), self._next_guard,
        )

    def _bring_back(self, state):
        # Copied once more, so that the state can be brought back again.
        house, rules, things, self._next_thing, guards, self._next_guard = state
        self._settle(house, rules)
        self._things = dict(things)
        self._guards = dict(guards)
