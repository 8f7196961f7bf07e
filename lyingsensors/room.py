"""What is known of a room: its bounds, its reports, and where the truth can be with each set of liars.

With one set of liars the numbers that the truth can be at a tick, by the reports up to it, are always
an interval: a move widens it, a report cuts it. Such an interval is kept as a tuple of its two ends,
and as None once it is empty, since an empty one must not be widened again.
"""


def size_of(told):
    """How many sensors a set has."""
    size = 0
    while told > 0:
        size += told & 1
        told = told >> 1
    return size


def has(told, sensor):
    return (told >> sensor) & 1 == 1


def sets_up_to(n, f):
    """All sets of at most f of n sensors, the smaller ones first, those of one size ascending."""
    return sorted([told for told in range(1 << n) if size_of(told) <= f], key=size_of)


def holds(span, number):
    return span is not None and span[0] <= number <= span[1]


def cut(span, a, b):
    """What of a span is from a to b."""
    if span is None or b < span[0] or span[1] < a:
        return None
    return (max(span[0], a), min(span[1], b))


def joined(spans):
    """The pieces of all numbers in these spans, as tuples."""
    pieces = []
    for a, b in sorted([span for span in spans if span is not None]):
        # Neighbours such as 1 to 2 and 3 to 4 leave no whole number between them: they are one piece.
        if pieces and a <= pieces[-1][1] + 1:
            last = pieces.pop()
            pieces.append((last[0], max(last[1], b)))
        else:
            pieces.append((a, b))
    return pieces


class Room:
    """A room that has begun: spans holds for each tick one span for each of sets, in their order."""

    def __init__(self, n, f, low, high, down, up):
        self.n = n
        self.f = f
        self.low = low
        self.high = high
        self.down = down
        self.up = up
        self.now = 0
        self.reports = [[]]
        self.sets = sets_up_to(n, f)
        self.spans = [[(low, high) for told in self.sets]]

    def moved(self, span):
        """Where the truth can be a tick after it was in this span."""
        if span is None:
            return None
        return (max(self.low, span[0] - self.down), min(self.high, span[1] + self.up))

    def pass_tick(self):
        self.spans.append([self.moved(span) for span in self.spans[self.now]])
        self.reports.append([])
        self.now += 1

    def has_reported(self, sensor):
        return sensor in [report[0] for report in self.reports[self.now]]

    def take_report(self, sensor, a, b):
        self.reports[self.now].append((sensor, a, b))
        before = self.spans[self.now]
        # A liar's report says nothing, so the sets with this sensor keep their spans.
        self.spans[self.now] = [
            span if has(told, sensor) else cut(span, a, b) for told, span in zip(self.sets, before)
        ]

    def pieces_now(self):
        return joined(self.spans[self.now])

    def can_be_now(self, number):
        return any([holds(span, number) for span in self.spans[self.now]])

    def possible_sets(self):
        """The sets of at most f sensors with which some course can be, in the order of sets."""
        return [told for told, span in zip(self.sets, self.spans[self.now]) if span is not None]

    def liar_sets(self):
        """The sets that can be the liars, ascending."""
        return [told for told in self.possible_sets() if size_of(told) == self.f]

    def least_set_with(self, number):
        """The least set that can be the liars with a course that ends with this number, or None."""
        for told, span in zip(self.sets, self.spans[self.now]):
            if size_of(told) == self.f and holds(span, number):
                return told
        return None

    def least_course(self, told, number):
        """The course that witness tells with these liars: found from its end, each number the least."""
        place = self.sets.index(told)
        course = [number]
        for spans in reversed(self.spans[:self.now]):
            course.append(max(spans[place][0], course[-1] - self.up))
        course.reverse()
        return course

    def may_follow(self, before, number):
        return before - self.down <= number <= before + self.up

    def agrees(self, told, tick, number):
        """Whether each report of this tick, but the liars', holds the number."""
        honest = [report for report in self.reports[tick] if not has(told, report[0])]
        return all([a <= number <= b for sensor, a, b in honest])

    def first_wrong(self, told, row):
        """The first tick at which the row fails to be a course with these liars, or None."""
        for tick, number in enumerate(row[:self.now + 1]):
            if not self.low <= number <= self.high or not self.agrees(told, tick, number):
                return tick
            if tick > 0 and not self.may_follow(row[tick - 1], number):
                return tick
        if len(row) == self.now + 1:
            return None
        return min(len(row), self.now + 1)
