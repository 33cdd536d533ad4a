"""Loops: the ways that come back, where each thing names the one that follows it."""


class Ways:
    """All ways by a dict from things to things, kept so that nothing of them is worked out twice."""

    def __init__(self, follows):
        self.follows = follows
        self.loops = loops_of(follows)
        # The number of the loop to which a thing leads, the ticks until it is on it, and its spot there:
        # here of the things on loops, later of those that were asked for, too.
        self.ends = {
            thing: (number, 0, spot)
            for number, loop in enumerate(self.loops)
            for spot, thing in enumerate(loop)
        }

    def told(self):
        """All loops as new lists, for whoever asks to have as its own."""
        return [list(loop) for loop in self.loops]

    def end(self, start):
        """To which loop a thing leads, the ticks until it is on it, and its spot there."""
        way = []
        at = start
        while at not in self.ends:
            way.append(at)
            at = self.follows[at]
        number, ticks, spot = self.ends[at]
        for thing in reversed(way):
            ticks += 1
            self.ends[thing] = (number, ticks, spot)
        return number, ticks, spot

    def loop_at(self, thing):
        """The number of the loop on which a thing is, or None."""
        number, ticks, _ = self.ends.get(thing, (None, 0, 0))
        return number if ticks == 0 else None


def loops_of(follows):
    """All loops of a dict from things to things, each from its least thing on, in order."""
    found = []
    walked = {}
    for start in follows:
        way = []
        at = start
        while at not in walked:
            walked[at] = start
            way.append(at)
            at = follows[at]
        # A way that runs into an earlier one adds no loop: that one's is found.
        if walked[at] == start:
            found.append(from_least(way[way.index(at):]))
    return sorted(found)


def from_least(loop):
    """The loop told from its least thing on."""
    least = loop.index(min(loop))
    return loop[least:] + loop[:least]
