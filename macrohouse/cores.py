"""Cores: what stands within them."""


def inner_cores(core):
    if core[0] == "fn":
        return [core[2]]
    if core[0] == "call":
        return [core[1]] + list(core[2])
    if core[0] in ("pick", "now"):
        return list(core[1:])
    return []


# An alike core, with other ones within it.
def with_inner(core, inner):
    if core[0] == "fn":
        return ("fn", core[1], inner[0])
    if core[0] == "call":
        return ("call", inner[0], tuple(inner[1:]))
    if core[0] in ("pick", "now"):
        return (core[0],) + tuple(inner)
    return core


# The core and all that stand within it, from the outside in and from left to right.
def cores_within(core):
    found = []
    left = [core]
    while len(left) > 0:
        found.append(left.pop())
        for inner in reversed(inner_cores(found[-1])):
            left.append(inner)
    return found
