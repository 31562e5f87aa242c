"""What is reckoned ahead: each `now`, to the number that it tells."""

from macrohouse.cores import cores_within, inner_cores, with_inner
from macrohouse.errors import NoAhead
from macrohouse.machine import run


def ahead(items, fuel=200):
    return [item[:-1] + (ahead_in(item[-1], fuel),) for item in items]


def ahead_in(core, fuel):
    reckoned = with_inner(core, [ahead_in(inner, fuel) for inner in inner_cores(core)])
    if core[0] == "now":
        return ("num", number_of(reckoned[1], fuel))
    return reckoned


def number_of(core, fuel):
    if sees_outside(core):
        raise NoAhead("a word means a place told outside")
    answer = run([("show", core)], fuel)[0]
    if answer[0] != "num":
        raise NoAhead("it tells no number")
    if abs(answer[1]) >= 10 ** 60:
        raise NoAhead("it tells a number of more than sixty figures")
    return answer[1]


def sees_outside(core):
    cores = cores_within(core)
    inside = {}
    for inner in cores:
        if inner[0] == "fn":
            inside.update(dict(inner[1]))
    return any([inner[0] == "seen" and inner[1] not in inside for inner in cores])
