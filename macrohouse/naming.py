"""Names by which the places of items are written."""

from macrohouse.cores import cores_within


def names_of(items):
    cores = []
    for item in items:
        cores.extend(cores_within(item[-1]))
    names = {}
    tops = [(item[1], item[2]) for item in items if item[0] == "def"]
    put_names(names, tops, taken_in(cores, names))
    for core in cores:
        if core[0] == "fn":
            put_names(names, core[1], taken_in(cores_within(core[2]), names))
    return names


# What may not stand in a scope. Of the places that it sees just those told outside of it
# have their names by then: what is told within is named later.
def taken_in(scope, names):
    taken = {}
    for core in scope:
        if core[0] == "free":
            taken[core[1]] = True
        elif core[0] in ("fn", "pick", "now"):
            taken[core[0]] = True
        elif core[0] == "seen" and core[1] in names:
            taken[names[core[1]]] = True
    return taken


def put_names(names, places, taken):
    used = dict(taken)
    # To each own name the number at which the last search for it ended: what
    # was taken then is taken still.
    reached = {}
    for place, name in places:
        number = reached.get(name, 1)
        while numbered_name(name, number) in used:
            number += 1
        reached[name] = number
        names[place] = numbered_name(name, number)
        used[names[place]] = True


def numbered_name(name, number):
    return name if number == 1 else f"{name}{number}"
