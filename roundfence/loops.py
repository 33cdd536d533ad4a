"""Loops: the ways that come back, where each thing names the one that follows it."""


def loops(follows):
    """All loops of a dict from things to things, each from its least thing on, in order."""
    found = []
    walked = {}
    for start in follows:
        at = start
        while at not in walked:
            walked[at] = start
            at = follows[at]
        # A way that runs into an earlier one adds no loop: that one's is found.
        if walked[at] == start:
            found.append(loop_through(follows, at))
    return sorted(found)


def loop_through(follows, thing):
    """The loop on which the thing lies, from its least thing on."""
    loop = [thing]
    while follows[loop[-1]] != thing:
        loop.append(follows[loop[-1]])
    least = loop.index(min(loop))
    return loop[least:] + loop[:least]


def way_in(follows, found, start):
    """The number of the loop found to which start leads, and the ticks until it is on it."""
    numbers = {thing: number for number, loop in enumerate(found) for thing in loop}
    at = start
    ticks = 0
    while at not in numbers:
        at = follows[at]
        ticks += 1
    return numbers[at], ticks
