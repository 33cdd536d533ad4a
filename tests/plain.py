"""What the tests hold the program against: plain going, and the boards to try it on.

Nothing here uses the program. A board is a triple (first, second, rows) here.
"""

import itertools
import os
import signal
import sys
import unittest

WORDS = ("first", "second", "other")
LASTS = ("first", "second")


class PromptCase(unittest.TestCase):
    """Tests that fail, instead of going on for ever, where the program isn't prompt."""

    def setUp(self):
        signal.signal(signal.SIGALRM, self.too_long)
        signal.alarm(30)
        self.addCleanup(signal.alarm, 0)

    def too_long(self, number, frame):
        raise AssertionError("the program does not answer promptly")


class RefusalCase(PromptCase):

    def refused(self, kind, what, call, *told, **named):
        with self.assertRaises(kind) as caught:
            call(*told, **named)
        self.assertIs(type(caught.exception), kind)
        self.assertEqual(caught.exception.what, what)
        self.assertIs(type(caught.exception.what), type(what))


def lines_run(call):
    """How many lines of the program are run by the call: a measure of work that hangs on no clock."""
    package = os.path.dirname(sys.modules["roundfence"].__file__)
    count = 0

    def trace(frame, event, told):
        nonlocal count
        if not frame.f_code.co_filename.startswith(package):
            return None
        count += event == "line"
        return trace

    before = sys.gettrace()
    sys.settrace(trace)
    try:
        call()
    finally:
        sys.settrace(before)
    assert count > 0, "no line of the program was seen"
    return count


def plain_word(triple, i, j):
    first, second, rows = triple
    for a, b, word in rows:
        if a == first[i] and b == second[j]:
            return word
    return "other"


def plain_tick(triple, standing):
    first, second, _ = triple
    i, j, last = standing
    word = plain_word(triple, i, j)
    if word == "other":
        word = "second" if last == "first" else "first"
    if word == "first":
        i += 1
        if i == len(first):
            i = 0
    else:
        j += 1
        if j == len(second):
            j = 0
    return (i, j, word)


def plain_walk(triple, standing, ticks):
    """What is told behind 0, 1 .. ticks, one after the other."""
    told = [(standing, 0, 0)]
    steps = {"first": 0, "second": 0}
    for _ in range(ticks):
        standing = plain_tick(triple, standing)
        steps[standing[2]] += 1
        told.append((standing, steps["first"], steps["second"]))
    return told


def plain_by_laps(triple, standing, ticks):
    """What is told behind however many ticks, through the laps of a walk that has come again."""
    walk = [(standing, 0, 0)]
    known = {standing: 0}
    while True:
        at = plain_tick(triple, walk[-1][0])
        _, firsts, seconds = walk[-1]
        walk.append((at, firsts + (at[2] == "first"), seconds + (at[2] == "second")))
        if at in known:
            break
        known[at] = len(walk) - 1
    since = known[at]
    lap = len(walk) - 1 - since
    if ticks < since:
        return walk[ticks]
    laps, over = divmod(ticks - since, lap)
    at, firsts, seconds = walk[since + over]
    return (at, firsts + laps * (walk[-1][1] - walk[since][1]), seconds + laps * (walk[-1][2] - walk[since][2]))


def plain_standings(triple):
    first, second, _ = triple
    return [(i, j, last) for i in range(len(first)) for j in range(len(second)) for last in LASTS]


def plain_trips(triple):
    """All trips: whoever is gone on with for as many ticks as there are standings is in one."""
    standings = plain_standings(triple)
    after = {standing: plain_tick(triple, standing) for standing in standings}
    found = []
    for standing in standings:
        at = standing
        for _ in standings:
            at = after[at]
        trip = [at]
        while after[trip[-1]] != at:
            trip.append(after[trip[-1]])
        while trip[0] != min(trip):
            trip.append(trip.pop(0))
        if trip not in found:
            found.append(trip)
    return sorted(found)


def plain_comes_to(triple, found, standing):
    ticks = 0
    while True:
        for number, trip in enumerate(found):
            if standing in trip:
                return (number, ticks)
        standing = plain_tick(triple, standing)
        ticks += 1


def plain_step_back(triple, place):
    """The place that follows backwards."""
    first, second, _ = triple
    i, j = place
    back = ((i or len(first)) - 1, (j or len(second)) - 1)
    return {"first": (back[0], j), "second": (i, back[1]), "other": back}[plain_word(triple, i, j)]


def plain_places(triple):
    first, second, _ = triple
    return [(i, j) for i in range(len(first)) for j in range(len(second))]


def plain_fences(triple):
    """All fences: whoever goes back by as many steps as there are places is in one."""
    places = plain_places(triple)
    before = {place: plain_step_back(triple, place) for place in places}
    found = []
    for place in places:
        at = place
        for _ in places:
            at = before[at]
        fence = [at]
        while before[fence[-1]] != at:
            fence.append(before[fence[-1]])
        while fence[0] != min(fence):
            fence.append(fence.pop(0))
        if fence not in found:
            found.append(fence)
    return sorted(found)


def plain_fence_of(triple, found, place):
    ticks = 0
    while True:
        for number, fence in enumerate(found):
            if place in fence:
                return (number, ticks)
        place = plain_step_back(triple, place)
        ticks += 1


def plain_column(triple, found, barring, i):
    """Height by height, what of the trips and fences found the first reader steps over from the place i."""
    marks = []
    for j in range(len(triple[1])):
        for number, trip in enumerate(found):
            for last in LASTS:
                if (i, j, last) in trip and plain_tick(triple, (i, j, last))[2] == "first":
                    marks.append((j, "trip", number))
        for number, fence in enumerate(barring):
            if (i, j) in fence and plain_word(triple, i, j) in ("first", "other"):
                marks.append((j, "fence", number))
    return marks


def plain_row(triple, found, barring, j):
    """Place by place, what of the trips and fences found the second reader steps over from the place j."""
    marks = []
    for i in range(len(triple[0])):
        for number, trip in enumerate(found):
            for last in LASTS:
                if (i, j, last) in trip and plain_tick(triple, (i, j, last))[2] == "second":
                    marks.append((i, "trip", number))
        for number, fence in enumerate(barring):
            if (i, j) in fence and plain_word(triple, i, j) in ("second", "other"):
                marks.append((i, "fence", number))
    return marks


def plain_meet(triple, found, one, other):
    """What is told of two standings, by going with both."""
    enough = 2 * len(triple[0]) * len(triple[1])
    ways = [[at for at, _, _ in plain_walk(triple, start, enough)] for start in (one, other)]
    for n, at in enumerate(ways[0]):
        if at in ways[1]:
            return ("together", n, ways[1].index(at))
    return ("apart",) + tuple(plain_comes_to(triple, found, start)[0] for start in (one, other))


def plain_rounds_by(triple, standing, rounds):
    """What is told of some rounds, tick by tick."""
    first, second, _ = triple
    steps = {"first": 0, "second": 0}
    waited = 0
    while steps["first"] < rounds * len(first):
        standing = plain_tick(triple, standing)
        steps[standing[2]] += 1
        waited = 0 if standing[2] == "first" else waited + 1
        # So many ticks without the first reader are a trip without it.
        if waited > 2 * len(first) * len(second):
            return None
    return steps["second"] // len(second)


def plain_rounds_far(triple, rounds):
    """What is told of each standing for however many rounds, by doubling jumps of whole rounds."""
    told = {standing: (standing, 0, 0) for standing in plain_standings(triple)}
    jump = {standing: plain_round(triple, standing) for standing in told}
    while rounds:
        if rounds % 2:
            told = joined(told, jump)
        jump = joined(jump, jump)
        rounds //= 2
    return {standing: steps and steps[2] // len(triple[1]) for standing, steps in told.items()}


def plain_round(triple, standing):
    """The jump over one round of the first reader, None where it never does one."""
    steps = {"first": 0, "second": 0}
    for _ in range(2 * len(triple[0]) * (len(triple[1]) + 1)):
        standing = plain_tick(triple, standing)
        steps[standing[2]] += 1
        if steps["first"] == len(triple[0]):
            return (standing, steps["first"], steps["second"])
    return None


def plain_far(triple, ticks):
    """What is told of each standing behind however many ticks, by doubling jumps."""
    told = {standing: (standing, 0, 0) for standing in plain_standings(triple)}
    jump = {}
    for standing in told:
        at = plain_tick(triple, standing)
        jump[standing] = (at, int(at[2] == "first"), int(at[2] == "second"))
    while ticks:
        if ticks % 2:
            told = joined(told, jump)
        jump = joined(jump, jump)
        ticks //= 2
    return told


def joined(one, other):
    """The jumps of one and then of the other, None where there is no such jump."""
    both = {}
    for standing, jump in one.items():
        more = jump and other[jump[0]]
        both[standing] = more and (more[0], jump[1] + more[1], jump[2] + more[2])
    return both


def all_rules(firsts, seconds):
    """All rules over the pairs of these letters, those without a row for a pair left out."""
    pairs = [(a, b) for a in firsts for b in seconds]
    for words in itertools.product(WORDS, repeat=len(pairs)):
        yield [(a, b, word) for (a, b), word in zip(pairs, words)]


class Picks:
    """Numbers that look picked by chance and are the same at each run."""

    def __init__(self, start):
        self.state = start

    def below(self, n):
        self.state = (self.state * 6364136223846793005 + 1442695040888963407) % 2 ** 64
        return (self.state >> 33) % n

    def text(self, length, letters):
        return "".join(letters[self.below(len(letters))] for _ in range(length))

    def rows(self, letters, most):
        """Up to so many rows, in no order, each pair once."""
        pairs = [(a, b) for a in letters for b in letters]
        rows = []
        for _ in range(self.below(most + 1)):
            a, b = pairs.pop(self.below(len(pairs)))
            rows.append((a, b, WORDS[self.below(3)]))
        return rows

    def triple(self, longest):
        letters = "abcdef"[:1 + self.below(6)]
        first = self.text(1 + self.below(longest), letters)
        second = self.text(1 + self.below(longest), letters)
        return (first, second, self.rows(letters, len(letters) ** 2))


def small_triples():
    """Small boards: every rule over a few rounds, the edges, and many that are picked."""
    triples = []
    for first, second in (("a", "b"), ("ab", "ab"), ("aab", "ba"), ("abb", "aabab")):
        for rows in all_rules(sorted(set(first)), sorted(set(second))):
            triples.append((first, second, rows))
    for first in ("a", "aa", "aaa", "ab", "abcdef"):
        for second in ("a", "aa", "b", "abba"):
            triples.append((first, second, []))
            for word in WORDS:
                rows = [(a, b, word) for a in "abcdef" for b in "abcdef"]
                triples.append((first, second, rows))
    picks = Picks(7)
    triples.extend(picks.triple(7) for _ in range(150))
    return triples


def long_triples():
    """Boards with rounds of one letter and of forty, as long as the document lets them be."""
    picks = Picks(40)
    cycle = ("abcdef" * 7)[:40]
    triples = [
        ("a" * 40, "b" * 40, []),
        ("a" * 40, "b" * 39, []),
        ("a", "b" * 40, [("a", "b", "first")]),
        ("a" * 40, "b", [("a", "b", "second")]),
        ("a" * 39 + "b", "a" * 39 + "b", [("a", "a", "first"), ("b", "a", "second")]),
        (cycle, cycle[::-1], [(a, b, WORDS[(ord(a) * 5 + ord(b)) % 3]) for a in "abcdef" for b in "abcdef"]),
    ]
    for letters in ("abcdef", "abc", "abcdef"):
        pairs = len(letters) ** 2
        triples.append((picks.text(40, letters), picks.text(40, letters), picks.rows(letters, pairs)))
    return triples
