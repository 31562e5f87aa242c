"""Runs: items gone through in order, to what they show."""

OPERATIONS = ("add", "sub", "less")


def run(items, fuel=200):
    machine = Machine(fuel)
    answers = []
    for item in items:
        value = machine.value_of(item[-1])
        if value is None:
            answers.append(machine.ending)
            return answers
        if item[0] == "def":
            machine.known[item[1]] = value
        else:
            answers.append(answer_of(value))
    return answers


def answer_of(value):
    if value[0] == "fn":
        return ("fn", len(value[1]))
    return value


# A value is ("num", number), ("op", name) or ("fn", params, body, frame). A frame is a pair:
# what was handed in for the P's of a fn, by their places, and the frame around that fn, or None.
class Machine:
    def __init__(self, fuel):
        self.fuel = fuel
        # The values of the top places whose `def` has come to one.
        self.known = {}
        # What is still to be done, the last of it first: pairs of a core and the frame in which it
        # stands. A list, for calls stand within one another more deeply than Python's may.
        self.tasks = []
        # The values come to that a task still waits for.
        self.results = []
        # How the run ended, where it did.
        self.ending = None

    def value_of(self, core):
        self.tasks.append((core, None))
        while len(self.tasks) > 0 and self.ending is None:
            task = self.tasks.pop()
            self.work(task[0], task[1])
        return self.results.pop() if self.ending is None else None

    def work(self, core, frame):
        kind = core[0]
        if kind == "num":
            self.results.append(core)
        elif kind == "free":
            self.found_as(("op", core[1]) if core[1] in OPERATIONS else None)
        elif kind == "seen":
            self.found_as(value_in(frame, core[1], self.known))
        elif kind == "fn":
            self.results.append(("fn", core[1], core[2], frame))
        elif kind == "now":
            self.tasks.append((core[1], frame))
        elif kind == "pick":
            self.tasks.append((("choose", core[2], core[3]), frame))
            self.tasks.append((core[1], frame))
        elif kind == "choose":
            self.choose(core, frame)
        elif kind == "call":
            self.begin_call(core, frame)
        else:
            self.end_call(core[1])

    def found_as(self, value):
        if value is None:
            self.ending = ("stuck",)
        else:
            self.results.append(value)

    def choose(self, core, frame):
        value = self.results.pop()
        if value[0] == "num":
            self.tasks.append((core[2] if value[1] == 0 else core[1], frame))
        else:
            self.ending = ("stuck",)

    def begin_call(self, core, frame):
        self.tasks.append((("enter", len(core[2])), frame))
        for part in reversed(core[2]):
            self.tasks.append((part, frame))
        self.tasks.append((core[1], frame))

    def end_call(self, count):
        values = list(reversed([self.results.pop() for thing in range(count)]))
        first = self.results.pop()
        if first[0] == "fn" and len(first[1]) == count:
            self.call_fn(first, values)
        else:
            self.found_as(reckoned(first, values))

    def call_fn(self, value, values):
        if self.fuel == 0:
            self.ending = ("on",)
        else:
            self.fuel = self.fuel - 1
            handed = dict([(param[0], thing) for param, thing in zip(value[1], values)])
            self.tasks.append((value[2], (handed, value[3])))


def value_in(frame, place, known):
    around = frame
    while around is not None:
        if place in around[0]:
            return around[0][place]
        around = around[1]
    return known.get(place)


# What an operation makes of values; None where that is stuck.
def reckoned(operation, values):
    if operation[0] != "op" or [value[0] for value in values] != ["num", "num"]:
        return None
    one = values[0][1]
    two = values[1][1]
    if operation[1] == "add":
        return ("num", one + two)
    if operation[1] == "sub":
        return ("num", one - two)
    return ("num", 1 if one < two else 0)
