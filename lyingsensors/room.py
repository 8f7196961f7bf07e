"""What is known of a room: its bounds, its reports, and where the truth can be with each set of liars.

With one set of liars the numbers that the truth can be at a tick, by the reports up to it, are always
an interval: a move widens it, a report cuts it. Such an interval is kept as a tuple of its two ends,
and as None once it is empty, since an empty one must not be widened again.
"""


def size_of(told):
    """How many sensors a set has."""
    size = 0
    while told > 0:
        size += told & 1
        told = told >> 1
    return size


def has(told, sensor):
    return (told >> sensor) & 1 == 1


def sets_up_to(n, f):
    """All sets of at most f of n sensors, the smaller ones first, those of one size ascending."""
    return sorted([told for told in range(1 << n) if size_of(told) <= f], key=size_of)


def holds(span, number):
    return span is not None and span[0] <= number <= span[1]


def cut(span, a, b):
    """What of a span is from a to b."""
    if span is None or b < span[0] or span[1] < a:
        return None
    return (max(span[0], a), min(span[1], b))


def all_within(pieces, a, b):
    """Whether all numbers of these pieces are from a to b; also where there is none."""
    return all([a <= first and last <= b for first, last in pieces])


def none_within(pieces, a, b):
    return all([last < a or b < first for first, last in pieces])


def joined(spans):
    """The pieces of all numbers in these spans, as tuples."""
    pieces = []
    # Many sets share a span, so each is joined once.
    for a, b in sorted(set([span for span in spans if span is not None])):
        # Neighbours such as 1 to 2 and 3 to 4 leave no whole number between them: they are one piece.
        if pieces and a <= pieces[-1][1] + 1:
            last = pieces.pop()
            pieces.append((last[0], max(last[1], b)))
        else:
            pieces.append((a, b))
    return pieces


class Room:
    """A room that has begun: spans holds for each tick one span for each of sets, in their order."""

    def __init__(self, n, f, low, high, down, up):
        self.n = n
        self.f = f
        self.low = low
        self.high = high
        self.down = down
        self.up = up
        self.now = 0
        self.reports = [[]]
        self.sets = sets_up_to(n, f)
        # A course that can be with fewer liars can be with f too, so these places tell all that the truth can be.
        self.full = [place for place, told in enumerate(self.sets) if size_of(told) == f]
        self.spans = [self.unheard()]

    def moved(self, span, k):
        """Where the truth can be k ticks after it was in this span, if nothing is reported."""
        if span is None:
            return None
        # The bounds may be kept to once at the end, since whoever comes to one may stand still there.
        return (max(self.low, span[0] - k * self.down), min(self.high, span[1] + k * self.up))

    def unheard(self):
        """The spans of now without the reports of now."""
        if self.now == 0:
            return [(self.low, self.high) for told in self.sets]
        after = {}
        # Many sets share a span, so each is moved once.
        for span in self.spans[self.now - 1]:
            if span not in after:
                after[span] = self.moved(span, 1)
        return [after[span] for span in self.spans[self.now - 1]]

    def heard(self, spans, sensor, a, b):
        """These spans with one more report."""
        # A liar's report says nothing, so the sets with this sensor keep their spans.
        return [span if has(told, sensor) else cut(span, a, b) for told, span in zip(self.sets, spans)]

    def pass_tick(self):
        self.now += 1
        self.reports.append([])
        self.spans.append(self.unheard())

    def report_now(self, sensor):
        """What the sensor has reported now: itself and the two ends, or None."""
        for report in self.reports[self.now]:
            if report[0] == sensor:
                return report
        return None

    def take_report(self, sensor, a, b):
        self.reports[self.now].append((sensor, a, b))
        self.spans[self.now] = self.heard(self.spans[self.now], sensor, a, b)

    def take_back(self, sensor):
        kept = [report for report in self.reports[self.now] if report[0] != sensor]
        # A cut can't be undone, so the spans are made anew from the reports that stay.
        spans = self.unheard()
        for report in kept:
            spans = self.heard(spans, report[0], report[1], report[2])
        self.reports[self.now] = kept
        self.spans[self.now] = spans

    def pieces_of(self, spans):
        """The pieces of where the truth can be, by one tick's spans."""
        return joined([spans[place] for place in self.full])

    def pieces_now(self):
        return self.pieces_of(self.spans[self.now])

    def pieces_supposed(self, sensor, a, b):
        return self.pieces_of(self.heard(self.spans[self.now], sensor, a, b))

    def pieces_ahead(self, k):
        return joined([self.moved(piece, k) for piece in self.pieces_now()])

    def span_back(self, place, tick):
        """Where the truth can have been at this tick with the set of this place, by all reports up to now."""
        if self.spans[self.now][place] is None:
            return None
        least = self.spans[self.now][place][0]
        most = self.spans[self.now][place][1]
        for spans in reversed(self.spans[tick:self.now]):
            least = max(spans[place][0], least - self.up)
            most = min(spans[place][1], most + self.down)
        return (least, most)

    def pieces_past(self, tick):
        return joined([self.span_back(place, tick) for place in self.full])

    def hull_now(self):
        """The least and the greatest number that the truth can be now, or None."""
        pieces = self.pieces_now()
        if not pieces:
            return None
        return (pieces[0][0], pieces[-1][1])

    def widths_so_far(self):
        """For each tick, how many numbers the truth could be at it by the reports up to it."""
        return [sum([b - a + 1 for a, b in self.pieces_of(spans)]) for spans in self.spans]

    def can_be_now(self, number):
        return any([holds(piece, number) for piece in self.pieces_now()])

    def possible_sets(self):
        """The sets of at most f sensors with which some course can be, in the order of sets."""
        return [told for told, span in zip(self.sets, self.spans[self.now]) if span is not None]

    def liar_sets(self):
        """The sets that can be the liars, ascending."""
        return [self.sets[place] for place in self.full if self.spans[self.now][place] is not None]

    def least_set_with(self, number):
        """The least set that can be the liars with a course that ends with this number, or None."""
        for place in self.full:
            if holds(self.spans[self.now][place], number):
                return self.sets[place]
        return None

    def least_course(self, told, number):
        """The course that witness tells with these liars: found from its end, each number the least."""
        place = self.sets.index(told)
        course = [number]
        for spans in reversed(self.spans[:self.now]):
            course.append(max(spans[place][0], course[-1] - self.up))
        course.reverse()
        return course

    def may_follow(self, before, number):
        return before - self.down <= number <= before + self.up

    def agrees(self, told, tick, number):
        """Whether each report of this tick, but the liars', holds the number."""
        honest = [report for report in self.reports[tick] if not has(told, report[0])]
        return all([a <= number <= b for sensor, a, b in honest])

    def first_wrong(self, told, row):
        """The first tick at which the row fails to be a course with these liars, or None."""
        for tick, number in enumerate(row[:self.now + 1]):
            if not self.low <= number <= self.high or not self.agrees(told, tick, number):
                return tick
            if tick > 0 and not self.may_follow(row[tick - 1], number):
                return tick
        if len(row) == self.now + 1:
            return None
        return min(len(row), self.now + 1)
