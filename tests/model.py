"""A model of the machine in Python's own fractions, by which random programs are run a second time.

It is told what points 54 to 66 say, in its own words, and has nothing of the package.
"""

from fractions import Fraction

LONG = 10 ** 60
COUNTS = {"push": 0, "height": 0, "size": 0, "way": 0, "measure": 0, "move": 0, "round": 0, "rest": 0, "copy": 1,
          "drop": 1, "negate": 1, "bare": 1, "floor": 1, "ceil": 1, "not": 1, "load": 1, "worth": 1, "place": 1,
          "was": 1, "least": 1, "cutin": 1, "lean": 1, "settle": 1, "far": 1, "line": 1, "amid": 1, "across": 5}
KINDS = {"load": "s", "keep": "-s", "worth": "w", "setworth": "-w", "lean": "p", "hold": "pp", "place": "p", "was": "p",
         "settle": "p", "far": "p", "line": "p", "amid": "p", "put": "pw", "by": "pw", "shift": "p-",
         "across": "ppppp"}
WANTS = {"far": ["lean"], "by": ["lean"], "line": ["lean"], "amid": ["one", "two"]}


class Stop(Exception):
    """A fault: how many were counted, and the text."""


def frac(number):
    """A number of the package as a Fraction."""
    return Fraction(*number) if isinstance(number, tuple) else Fraction(number)


def told(value):
    """A Fraction as a number of the package."""
    return value.numerator if value.denominator == 1 else (value.numerator, value.denominator)


def is_long(value):
    return abs(value.numerator) >= LONG or value.denominator >= LONG


def nearest(bare, period, phase):
    """The nearest place at a phase and periods beyond it, of two the further one."""
    if bare <= phase:
        return phase
    steps = (bare - phase) / period
    low = steps.numerator // steps.denominator
    return phase + period * (low + 1 if steps - low >= Fraction(1, 2) else low)


def rounded(value, kind):
    """A value rounded by a kind."""
    bare = abs(value)
    if kind == "off":
        return value
    if kind == "down":
        bare = bare // 64 * 64
    elif kind == "up":
        bare = -(-bare // 64) * 64
    else:
        period, phase = {"grid": (64, 0), "half": (64, 32), "double": (32, 0)}.get(kind, kind)
        bare = nearest(bare, Fraction(period), Fraction(phase))
    return -bare if value < 0 else bare


def carry(value, ahead, behind):
    """A value carried between two pairs (first, now)."""
    low, high = sorted([ahead, behind], key=lambda pair: pair[0])
    if low[0] == high[0]:
        return value + ahead[1] - ahead[0]
    if value <= low[0]:
        return value + low[1] - low[0]
    if value >= high[0]:
        return value + high[1] - high[0]
    return low[1] + (high[1] - low[1]) * (value - low[0]) / (high[0] - low[0])


class Model:
    """A machine."""

    def __init__(self, definitions, size, worths, places, ends, made_up, store, most, budget):
        self.definitions, self.size, self.most, self.budget = definitions, size, most, budget
        self.worths = [frac(each) for each in worths]
        self.store = [frac(each) for each in store]
        self.ends = ends
        self.points = {}
        for at, (x, y) in enumerate(places):
            self.points[at] = {"first": (frac(x), frac(y)), "now": (frac(x), frac(y)), "touched": (False, False)}
        for at, (first, now) in enumerate(made_up):
            self.points[-1 - at] = {"first": tuple(map(frac, first)), "now": tuple(map(frac, now)),
                                    "touched": (False, False)}
        self.stack, self.trail, self.done = [], [], 0
        self.set = {"move": (1, 0, 1), "along": (1, 0, 1), "kind": "grid", "least": 64, "cutin": 68, "lean": 0,
                    "one": 0, "two": 0}

    def stop(self, why):
        raise Stop(self.done, why)

    def count(self):
        if self.done >= self.budget:
            self.stop("budget")
        self.done += 1

    def words(self, words):
        for word in words:
            getattr(self, "word_" + word[0], self.plain)(word)

    def word_if(self, word):
        if self.done >= self.budget:
            self.stop("budget")
        if not self.stack:
            self.stop("lack")
        top = self.stack.pop()
        self.done += 1
        self.trail.append(("drop",))
        self.words(word[1] if top else word[2])

    def word_repeat(self, word):
        self.count()
        for _ in range(word[1]):
            self.count()
            self.words(word[2])

    def word_when(self, word):
        self.count()
        if word[1] <= self.size <= word[2]:
            self.words(word[3])

    def word_call(self, word):
        self.count()
        self.words(self.definitions[word[1]])

    def plain(self, word):
        if self.done >= self.budget:
            self.stop("budget")
        name = word[0]
        takes = word[1] if name == "pick" else COUNTS.get(name, 2)
        if len(self.stack) < takes:
            self.stop("lack")
        things = self.stack[len(self.stack) - takes:]
        for kind, thing in zip(KINDS.get(name, ""), things):
            if kind == "-":
                continue
            if thing.denominator != 1:
                self.stop("whole")
            if kind == "p" and int(thing) not in self.points:
                self.stop("point")
            if kind == "s" and not 0 <= thing <= 7:
                self.stop("store")
            if kind == "w" and not 0 <= thing < len(self.worths):
                self.stop("worth")
        before = {at: (point["first"], point["now"]) for at, point in self.points.items()}
        height = len(self.stack)
        del self.stack[height - takes:]
        puts = [Fraction(each) for each in self.do(name, word, things, height) or []]
        if any(is_long(each) for each in puts):
            self.stop("great")
        for at, point in self.points.items():
            for old, new in zip(before[at], (point["first"], point["now"])):
                if old != new and (is_long(new[0]) or is_long(new[1])):
                    self.stop("great")
        self.stack += puts
        if len(self.stack) > self.most:
            self.stop("full")
        self.trail.append(word)
        self.done += 1

    def do(self, name, word, things, height):
        """Does a word but for the stack, tells what it puts."""
        one, two = (list(things) + [None, None])[:2]
        reckon = {
            "push": lambda: [frac(word[1])], "height": lambda: [height], "size": lambda: [self.size],
            "copy": lambda: [one, one], "drop": lambda: [], "swap": lambda: [two, one],
            "pick": lambda: things + things[:1], "plus": lambda: [one + two], "minus": lambda: [one - two],
            "times": lambda: [one * two], "over": lambda: [one / two] if two else self.stop("nought"),
            "lesser": lambda: [int(one < two)], "greater": lambda: [int(one > two)], "same": lambda: [int(one == two)],
            "both": lambda: [int(one != 0 and two != 0)], "either": lambda: [int(not (one == 0 and two == 0))],
            "negate": lambda: [-one], "bare": lambda: [abs(one)], "floor": lambda: [one // 64 * 64],
            "ceil": lambda: [-(-one // 64) * 64], "not": lambda: [int(one == 0)],
            "load": lambda: [self.store[int(one)]], "worth": lambda: [self.worths[int(one)]],
            "place": lambda: [self.measure(self.points[int(one)]["now"])],
            "was": lambda: [self.measure(self.points[int(one)]["first"])],
            "keep": lambda: self.store.__setitem__(int(two), one),
            "setworth": lambda: self.worths.__setitem__(int(two), one),
            "way": lambda: self.set.update(move=self.way(word), along=self.way(word)),
            "move": lambda: self.set.update(move=self.way(word)),
            "measure": lambda: self.set.update(along=self.way(word)),
            "round": lambda: self.set.update(kind=word[1]),
            "period": lambda: self.set.update(kind=(one, two)) if 0 <= two < one else self.stop("round"),
            "least": lambda: self.set.update(least=one) if one >= 0 else self.stop("least"),
            "cutin": lambda: self.set.update(cutin=one) if one >= 0 else self.stop("least"),
            "lean": lambda: self.set.update(lean=int(one)),
            "hold": lambda: self.set.update(one=int(one), two=int(two)),
            "rest": lambda: self.rest(0 if word[1] == "east" else 1),
        }
        if name in reckon:
            return reckon[name]()
        for want in WANTS.get(name, []):
            if self.set[want] not in self.points:
                self.stop("point")
        if name == "shift":
            a, b, long = self.set["move"]
            return self.give(one, (two * a / long, two * b / long))
        if name == "across":
            return self.across(things)
        return self.moves(name, int(one), None if two is None else self.worths[int(two)])

    def moves(self, name, at, worth):
        """The moves that go to a measure."""
        (a, b, _), (c, d, _) = self.set["move"], self.set["along"]
        if a * c + b * d == 0:
            self.stop("square")
        point = self.points[at]
        if name == "put" and at < 0:
            point["first"] = point["now"] = self.at(point["first"], worth)
        first, now = self.measure(point["first"]), self.measure(point["now"])
        if name in ("settle", "put"):
            if name == "put" and abs(worth - now) <= self.set["cutin"]:
                now = worth
            self.go(at, rounded(now, self.set["kind"]))
            self.set["lean"] = at
            return
        if name == "amid":
            held = [self.points[self.set[word]] for word in ("one", "two")]
            pairs = [(self.measure(each["first"]), self.measure(each["now"])) for each in held]
            self.go(at, carry(first, *pairs))
            return
        lean = self.points[self.set["lean"]]
        begin = self.measure(lean["now"])
        if name == "line":
            self.go(at, begin)
            return
        distance = first - self.measure(lean["first"])
        length = distance
        if name == "by":
            control = -abs(worth) if distance < 0 else abs(worth)
            if abs(control - distance) <= self.set["cutin"]:
                length = control
        length = rounded(length, self.set["kind"])
        if abs(length) < self.set["least"]:
            length = -self.set["least"] if distance < 0 else self.set["least"]
        self.go(at, begin + length)

    def way(self, word):
        a, b = word[1:]
        return (a, b, next(long for long in range(1, 1001) if long * long == a * a + b * b))

    def measure(self, place):
        a, b, long = self.set["along"]
        return Fraction(place[0] * a + place[1] * b) / long

    def at(self, place, to):
        """Where a place comes to that goes to a measure."""
        (a, b, _), (c, d, long) = self.set["move"], self.set["along"]
        steps = Fraction(to - self.measure(place)) * long / (a * c + b * d)
        return (place[0] + steps * a, place[1] + steps * b)

    def go(self, at, to):
        x, y = self.points[at]["now"]
        east, north = self.at((x, y), to)
        self.give(at, (east - x, north - y))

    def give(self, at, by):
        """Moves a point by so much east and north, and touches it."""
        point = self.points[int(at)]
        point["now"] = (point["now"][0] + by[0], point["now"][1] + by[1])
        a, b, _ = self.set["move"]
        point["touched"] = (point["touched"][0] or a != 0, point["touched"][1] or b != 0)

    def across(self, things):
        (ax, ay), (bx, by), (cx, cy), (dx, dy) = [self.points[int(at)]["now"] for at in things[1:]]
        # Each line as all (x, y) of which p * x + q * y is r.
        p, q, r = by - ay, ax - bx, (by - ay) * ax + (ax - bx) * ay
        s, t, u = dy - cy, cx - dx, (dy - cy) * cx + (cx - dx) * cy
        if p * t - q * s == 0:
            self.stop("lines")
        point = self.points[int(things[0])]
        point["now"] = ((r * t - q * u) / (p * t - q * s), (p * u - r * s) / (p * t - q * s))
        point["touched"] = (True, True)

    def rest(self, axis):
        begin = 0
        for end in self.ends:
            many = end - begin + 1
            moved = {}
            for at in range(many):
                if self.points[begin + at]["touched"][axis]:
                    continue
                pairs = []
                for turn in (-1, 1):
                    for step in range(1, many):
                        other = self.points[begin + (at + turn * step) % many]
                        if other["touched"][axis]:
                            pairs.append((other["first"][axis], other["now"][axis]))
                            break
                if pairs:
                    moved[begin + at] = carry(self.points[begin + at]["first"][axis], *pairs)
            for at, value in moved.items():
                now = list(self.points[at]["now"])
                now[axis] = value
                self.points[at]["now"] = tuple(now)
            begin = end + 1
