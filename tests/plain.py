"""The document's words done by going through all courses and all sets: slow, for small rooms alone."""

from itertools import combinations, product

# Up to so many ticks all courses are gone through; from there on ahead and leaves go step by step.
MOST_TICKS = 4


def told_pieces(numbers):
    firsts = sorted(v for v in numbers if v - 1 not in numbers)
    lasts = sorted(v for v in numbers if v + 1 not in numbers)
    told = [0, len(firsts)]
    for first, end in zip(firsts, lasts):
        told += [first, end]
    return told


class Plain:
    def __init__(self):
        self.begun = False

    def answer(self, call):
        if call[0] != "begin" and not self.begun:
            return [-7]
        return getattr(self, call[0])(*call[1:])

    def begin(self, n, f, low, high, down, up):
        big = 10 ** 9
        if n not in range(1, 10) or f not in range(0, 5) or f >= n:
            return [-1]
        if abs(low) > big or abs(high) > big or high < low:
            return [-1]
        if down < 0 or down > big or up < 0 or up > big:
            return [-1]
        self.begun = True
        self.n, self.f, self.low, self.high, self.down, self.up = n, f, low, high, down, up
        self.now = 0
        self.reported = {}
        return [0]

    def sets_of(self, size):
        return sorted(sum(2 ** i for i in some) for some in combinations(range(self.n), size))

    def course_can_be(self, told, course):
        """A course may end before now: then it is one by the reports up to its last tick."""
        for tick, number in enumerate(course):
            if number < self.low or number > self.high:
                return False
            if tick and number < course[tick - 1] - self.down:
                return False
            if tick and number > course[tick - 1] + self.up:
                return False
            for sensor in range(self.n):
                if not told & 2 ** sensor and (tick, sensor) in self.reported:
                    a, b = self.reported[tick, sensor]
                    if number < a or number > b:
                        return False
        return True

    def courses(self, told, ticks):
        every = product(range(self.low, self.high + 1), repeat=ticks)
        return [course for course in every if self.course_can_be(told, course)]

    def ends(self, told):
        return {course[-1] for course in self.courses(told, self.now + 1)}

    def truths_at(self, tick, ticks):
        """What the truth can be at a tick, by the reports of so many ticks."""
        numbers = set()
        for size in range(self.f + 1):
            for told in self.sets_of(size):
                numbers |= {course[tick] for course in self.courses(told, ticks)}
        return numbers

    def truths(self):
        return self.truths_at(self.now, self.now + 1)

    def stepped(self, numbers):
        return {
            w for w in range(self.low, self.high + 1)
            if any(v - self.down <= w <= v + self.up for v in numbers)}

    def truths_ahead(self, k):
        if self.now + 1 + k <= MOST_TICKS:
            return self.truths_at(self.now + k, self.now + 1 + k)
        numbers = self.truths()
        for _ in range(k):
            numbers = self.stepped(numbers)
        return numbers

    def can_be_liars(self):
        return [told for told in self.sets_of(self.f) if self.ends(told)]

    def refusal(self, sensor, a, b):
        if sensor not in range(self.n) or a > b or max(abs(a), abs(b)) > 2 * 10 ** 9:
            return [-1]
        if (self.now, sensor) in self.reported:
            return [-3]
        return None

    def report(self, sensor, a, b):
        if self.refusal(sensor, a, b):
            return self.refusal(sensor, a, b)
        self.reported[self.now, sensor] = (a, b)
        return [0, len(self.can_be_liars())]

    def tick(self, k):
        if k not in range(1, 101):
            return [-1]
        if self.now + k > 99:
            return [-5]
        self.now += k
        return [0, self.now]

    def places(self):
        return told_pieces(self.truths())

    def can(self, v):
        return [0, int(v in self.truths())]

    def witness(self, v):
        fitting = [told for told in self.sets_of(self.f) if v in self.ends(told)]
        if not fitting:
            return [-4]
        told = min(fitting)
        course = [v]
        for tick in reversed(range(self.now)):
            course.insert(0, min(
                before[-1] for before in self.courses(told, tick + 1)
                if before[-1] - self.down <= course[0] <= before[-1] + self.up))
        return [0, told] + course

    def check(self, told, row):
        if told not in range(2 ** self.n):
            return [-1]
        if bin(told).count("1") > self.f:
            return [0, 0, -1]
        for tick in range(min(len(row), self.now + 1)):
            if not self.course_can_be(told, row[:tick + 1]):
                return [0, 0, tick]
        if len(row) <= self.now:
            return [0, 0, len(row)]
        if len(row) > self.now + 1:
            return [0, 0, self.now + 1]
        return [0, 1]

    def liars(self):
        possible = self.can_be_liars()
        if not possible:
            return [-4]
        return [0] + [i for i in range(self.n) if all(told & 2 ** i for told in possible)]

    def fewest(self):
        for size in range(self.f + 1):
            for told in self.sets_of(size):
                if self.ends(told):
                    return [0, size, told]
        return [-4]

    def sets(self):
        return [0] + self.can_be_liars()

    def past(self, tick):
        if tick not in range(self.now + 1):
            return [-1]
        return told_pieces(self.truths_at(tick, self.now + 1))

    def ahead(self, k):
        if k not in range(1001):
            return [-1]
        return told_pieces(self.truths_ahead(k))

    def sure(self, a, b):
        if a > b:
            return [-1]
        if not self.can_be_liars():
            return [-4]
        held = {a <= v <= b for v in self.truths()}
        return [0, {True: 1, False: 2}[held.pop()]] if len(held) == 1 else [0, 0]

    def leaves(self, a, b):
        if a > b:
            return [-1]
        if not self.can_be_liars():
            return [-4]
        numbers = self.truths()
        for k in range(201):
            if any(v < a or v > b for v in numbers):
                return [0, 1, k]
            numbers = self.stepped(numbers)
        return [0, 0]

    def suppose(self, sensor, a, b):
        if self.refusal(sensor, a, b):
            return self.refusal(sensor, a, b)
        self.reported[self.now, sensor] = (a, b)
        told = told_pieces(self.truths())
        del self.reported[self.now, sensor]
        return told

    def trusted(self, sensor):
        if sensor not in range(self.n):
            return [-1]
        if (self.now, sensor) not in self.reported:
            return [-4]
        a, b = self.reported[self.now, sensor]
        return [0, int(all(a <= v <= b for v in self.truths()))]

    def hull(self):
        numbers = self.truths()
        return [0, min(numbers), max(numbers)] if numbers else [-4]

    def reports(self, tick):
        if tick not in range(self.now + 1):
            return [-1]
        told = [0]
        for (at, sensor), (a, b) in self.reported.items():
            if at == tick:
                told += [sensor, a, b]
        return told

    def widths(self):
        return [0] + [len(self.truths_at(tick, tick + 1)) for tick in range(self.now + 1)]

    def unsay(self, sensor):
        if sensor not in range(self.n):
            return [-1]
        if (self.now, sensor) not in self.reported:
            return [-4]
        del self.reported[self.now, sensor]
        return [0]
