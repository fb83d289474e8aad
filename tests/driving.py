"""A drive written once more, slowly and by the words of point 19 and its interface, for the tests to compare with."""

from movedfolders import errors
from movedfolders.houses import contents
from movedfolders.kinds import after
from tests import judge, oracles


class Model:
    """What a drive must answer; plans, certificates and tables, which are free, are left to the tests."""

    def __init__(self, house, rules):
        self.now = {"house": house, "rules": rules, "things": {}, "next": 0, "guards": {}, "next_guard": 0}
        self.kept = []

    def copied(self):
        found = dict(self.now)
        found["things"], found["guards"] = dict(self.now["things"]), dict(self.now["guards"])
        return found

    def known(self, number):
        return number.__class__ is int and number in self.now["things"]

    def is_folder(self, number):
        return self.now["things"][number][0] < len(self.now["house"][2])

    def path(self, number):
        path = []
        while number != -1:
            path = [number] + path
            number = self.now["things"][number][1]
        return tuple(path)

    def place(self, number):
        house = self.now["house"]
        return after(house, house[1], tuple(self.now["things"][one][0] for one in self.path(number)))

    def content(self, number):
        return self.place(self.now["things"][number][1])

    def require_thing(self, number):
        if not self.known(number):
            raise errors.UnknownThing(number)

    def require_target(self, number):
        if number.__class__ is not int or number != -1:
            self.require_thing(number)
            if not self.is_folder(number):
                raise errors.NotAFolder(number)

    def add(self, item, above=-1):
        if not judge.is_item(self.now["house"], item):
            raise errors.UnknownItem(item)
        self.require_target(above)
        if len(self.now["things"]) == 200:
            raise errors.LimitExceeded(200)
        self.now["things"][self.now["next"]] = (item, above)
        self.now["next"] += 1
        return self.now["next"] - 1

    def drop(self, thing):
        self.require_thing(thing)
        if any(above == thing for _, above in self.now["things"].values()):
            raise errors.Holds(thing)
        del self.now["things"][thing]
        for number, (one, *_) in list(self.now["guards"].items()):
            if one == thing:
                del self.now["guards"][number]

    def move(self, thing, target=-1):
        self.require_thing(thing)
        self.require_target(target)
        if target != -1 and thing in self.path(target):
            raise errors.Within(target)
        item = self.now["things"][thing][0]
        for index, (mover, froms, to) in enumerate(self.now["rules"]):
            if mover == item and self.content(thing) in froms and self.place(target) in to:
                self.now["things"][thing] = (item, target)
                return index
        raise errors.NotLet(thing)

    def perform(self, deeds):
        if deeds.__class__ is not tuple or len(deeds) > 400:
            raise errors.InvalidDeeds()
        shapes = [("add", 3), ("move", 3), ("drop", 2)]
        for deed in deeds:
            if deed.__class__ is not tuple or not deed or deed[0].__class__ is not str or (deed[0], len(deed)) not in shapes:
                raise errors.InvalidDeeds()
        before, told = self.copied(), []
        for index, (word, *parts) in enumerate(deeds):
            try:
                told.append(getattr(self, word)(*parts))
            except Exception as cause:
                self.now = before
                raise errors.Refused(index) from cause
        return tuple(told)

    def things(self):
        return tuple(sorted(self.now["things"]))

    def below(self, thing):
        return tuple(number for number in self.things() if number != thing and thing in self.path(number))

    def snapshot(self):
        numbers = self.things()
        places = {-1: -1, **{number: k for k, number in enumerate(numbers)}}
        return tuple((item, places[above]) for item, above in [self.now["things"][one] for one in numbers]), numbers

    def forecast(self, thing):
        tree, numbers = self.snapshot()
        level = oracles.forecast_of(self.now["house"], self.now["rules"], tree, numbers.index(thing))
        return tuple(sorted((content,) + cost for content, cost in level.items()))

    def set_rules(self, rules):
        self.now["rules"] = rules

    def set_kind(self, index, kind):
        sizes, begin, kinds = self.now["house"]
        self.now["house"] = (sizes, begin, kinds[:index] + (kind,) + kinds[index + 1:])

    def checkpoint(self):
        if len(self.kept) == 4:
            raise errors.LimitExceeded(4)
        self.kept.append(self.copied())
        return len(self.kept) - 1

    def restore(self, number):
        if number.__class__ is not int or not 0 <= number < len(self.kept):
            raise errors.UnknownCheckpoint(number)
        self.now = self.kept[number]
        self.now = self.copied()

    def guard(self, thing, some):
        self.require_thing(thing)
        if not judge.are_contents(self.now["house"], some):
            raise errors.InvalidContent(some)
        if len(self.now["guards"]) == 8:
            raise errors.LimitExceeded(8)
        reach = [row[0] for row in self.forecast(thing)]
        for content in contents(self.now["house"]):
            if content in some and content in reach:
                raise errors.Reachable(content)
        self.now["guards"][self.now["next_guard"]] = (thing, some)
        self.now["next_guard"] += 1
        return self.now["next_guard"] - 1

    def guards(self):
        return tuple(sorted(self.now["guards"]))


def outcome(told, *arguments):
    """Return what a call returns, or the class of its error with all that it keeps, and those of its cause."""
    try:
        return ("value", told(*arguments))
    except Exception as error:
        return ("error",) + kept_by(error)


def kept_by(error):
    cause = None if error.__cause__ is None else kept_by(error.__cause__)
    return (error.__class__, vars(error), cause)


def seen(drive):
    """Return all that a drive tells of its things, without forecasts."""
    found = [len(drive), drive.things(), drive.house(), drive.rules(), drive.snapshot(), drive.guards(), drive.records()]
    for number in drive.things():
        found.append((drive.item(number), drive.above(number), drive.content(number), drive.path(number)))
        found.append((drive.below(number), outcome(drive.inside, number)))
    found += [drive.guarded(number) for number in drive.guards()]
    return found + [drive.recorded(number) for number in range(drive.records())]
