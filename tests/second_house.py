"""A second telling of houses and runs, slow and plain, to hold the program against."""

import re

from macrohouse.errors import BadForm, BadRule, GoesOn, NoName, TwoClaims
from macrohouse.reader import read
from macrohouse.rules import check_rule
from macrohouse.trees import Row, is_name
from tests.second import Second, Stop, first_wrong, inner_cores, numbered

FORMS = (r"use n( p)*", r"tell( p)*", r"def n .", r"mac n [re]", r"show .")


class Refused(Exception):
    """A refusal, told by its class and its two places."""


def letter(tree):
    """n: a name, p: a row of two names, r: a row of rules, e: an empty row, o: another tree."""
    if is_name(tree):
        return "n"
    if not isinstance(tree, Row):
        return "o"
    if not tree.parts:
        return "e"
    if [letter(part) for part in tree.parts] == ["n", "n"]:
        return "p"
    return "r" if all(is_slow_rule(part) for part in tree.parts) else "o"


def is_slow_rule(tree):
    return isinstance(tree, Row) and len(tree.parts) == 2 and isinstance(tree.parts[0], Row)


def kind_of(tree):
    """The first word of an item; None of what is none."""
    if not isinstance(tree, Row) or not tree.parts or letter(tree.parts[0]) != "n":
        return None
    form = " ".join([tree.parts[0].name] + [letter(part) for part in tree.parts[1:]])
    return tree.parts[0].name if any(re.fullmatch(pattern, form) for pattern in FORMS) else None


class SecondHouse(Second):
    def house(self, text):
        trees = read(text)
        self.stretches = len(trees)
        self.lines = []
        self.told = {}
        self.names = {}
        try:
            for number, tree in enumerate(trees):
                self.look_at(number, tree)
            cores = [self.come(line[-1], 0) for line in self.lines]
        except Refused as refused:
            return refused.args
        except Stop as stop:
            return (GoesOn, stop.args[0], None)
        for wrong in filter(None, map(first_wrong, cores)):
            return (wrong[0], wrong[1], None)
        tops = {line[1]: line[1] for line in self.lines if line[0] == "def"}
        return [line[:-1] + (numbered(core, tops),) for line, core in zip(self.lines, cores)]

    def look_at(self, number, tree):
        if re.match("part n( |$)", " ".join(self.spelled(tree))) is None:
            raise Refused(BadForm, tree.at, None)
        name = tree.parts[1]
        once(self.names, name)
        claimed = {}
        told = {}
        rows = [part.marked(number) for part in tree.parts[2:]]
        # Python keeps the order of what it finds equal.
        for row in sorted(rows, key=lambda row: self.spelled(row)[:1] == ["tell"]):
            kind = kind_of(row)
            if kind is None:
                raise Refused(BadForm, row.at, None)
            if kind == "show":
                self.lines.append(("show", row.parts[1]))
            if kind == "def":
                once(claimed, row.parts[1])
                self.claim(row.parts[1], ("seen", self.places))
                self.lines.append(("def", self.places, row.parts[1].name, row.parts[2]))
                self.places += 1
            if kind == "mac":
                once(claimed, row.parts[1])
                self.claim(row.parts[1], ("macro", [self.checked(rule) for rule in row.parts[2].parts]))
            if kind == "use":
                self.take(row, claimed)
            if kind == "tell":
                self.hand_on(row, told)
        self.told[name.name] = told

    def spelled(self, tree):
        if not isinstance(tree, Row):
            return []
        return [part.name if k == 0 and letter(part) == "n" else letter(part) for k, part in enumerate(tree.parts)]

    def checked(self, rule):
        try:
            check_rule(*rule.parts)
        except BadRule:
            raise Refused(BadRule, rule.parts[0].at, None)
        return rule.parts

    def take(self, row, claimed):
        source = row.parts[1]
        if source.name not in self.told:
            raise Refused(NoName, source.at, None)
        for pair in row.parts[2:]:
            mine, theirs = pair.parts
            if theirs.name not in self.told[source.name]:
                raise Refused(NoName, theirs.at, None)
            once(claimed, mine)
            self.claim(mine, self.told[source.name][theirs.name])

    def hand_on(self, row, told):
        for pair in row.parts[1:]:
            mine, theirs = pair.parts
            if self.meaning(mine) is None:
                raise Refused(NoName, mine.at, None)
            once(self.names, theirs, row.parts[0].bits)
            told[theirs.name] = self.meaning(mine)


def once(seen, word, where=None):
    if (word.name, where) in seen:
        raise Refused(TwoClaims, seen[(word.name, where)], word.at)
    seen[(word.name, where)] = word.at


class Stuck(Exception):
    """("stuck",)"""


class On(Exception):
    """("on",)"""


class SlowRun:
    """Runs items by calls of itself: few calls may stand within one another."""

    def __init__(self, fuel):
        self.fuel = fuel

    def run(self, items):
        told = []
        around = {}
        try:
            for item in items:
                value = self.value(item[-1], around)
                if item[0] == "def":
                    around[item[1]] = value
                else:
                    told.append(self.shown(value))
        except Stuck:
            told.append(("stuck",))
        except On:
            told.append(("on",))
        return told

    def shown(self, value):
        if isinstance(value, int):
            return ("num", value)
        return ("op", value) if isinstance(value, str) else ("fn", len(value[0]))

    def value(self, core, around):
        """`around` is one dict for all items, and an own one in each call, in which later tops are looked up too."""
        if core[0] == "num":
            return core[1]
        if core[0] == "fn":
            return (core[1], core[2], around)
        if core[0] == "free" and core[1] in ("add", "sub", "less"):
            return core[1]
        if core[0] == "seen" and core[1] in around:
            return around[core[1]]
        if core[0] == "now":
            return self.value(core[1], around)
        if core[0] == "pick":
            chosen = self.value(core[1], around)
            if isinstance(chosen, int):
                return self.value(core[3] if chosen == 0 else core[2], around)
        if core[0] == "call":
            values = [self.value(part, around) for part in (core[1],) + core[2]]
            return self.called(values[0], values[1:])
        raise Stuck()

    def called(self, first, values):
        if isinstance(first, tuple) and len(first[0]) == len(values):
            if self.fuel == 0:
                raise On()
            self.fuel -= 1
            return self.value(first[1], Around({param[0]: thing for param, thing in zip(first[0], values)}, first[2]))
        if isinstance(first, str) and len(values) == 2 and all(isinstance(value, int) for value in values):
            one, two = values
            return {"add": one + two, "sub": one - two, "less": int(one < two)}[first]
        raise Stuck()


class Around:
    def __init__(self, own, outer):
        self.own = own
        self.outer = outer

    def __contains__(self, place):
        return place in self.own or place in self.outer

    def __getitem__(self, place):
        return self.own[place] if place in self.own else self.outer[place]


def slow_run(items, fuel):
    return SlowRun(fuel).run(items)


def places_wanted(core):
    """The places that words of a core mean and that it doesn't tell itself."""
    if core[0] == "seen":
        return {core[1]}
    wanted = {place for inner in inner_cores(core) for place in places_wanted(inner)}
    return wanted - {place for place, _ in core[1]} if core[0] == "fn" else wanted


def slow_ahead(core, fuel):
    """The core reckoned ahead, None where that is refused."""
    inner = [slow_ahead(part, fuel) for part in inner_cores(core)]
    if None in inner:
        return None
    if core[0] == "now":
        told = slow_run([("show", inner[0])], fuel)[0]
        sound = not places_wanted(inner[0]) and told[0] == "num" and len(str(abs(told[1]))) <= 60
        return told if sound else None
    if core[0] == "fn":
        return ("fn", core[1], inner[0])
    if core[0] == "call":
        return ("call", inner[0], tuple(inner[1:]))
    return ("pick",) + tuple(inner) if core[0] == "pick" else core
