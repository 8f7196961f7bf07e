"""The calls on one room, read from a list of whole numbers, and their answers.

Each call refuses before it changes anything, so that after a refusal all is as it was.
"""

from lyingsensors.room import Room, all_within, has, none_within, size_of

OUT_OF_RANGE = -1
TOLD_ALREADY = -3
NOT_SO = -4
NO_PLACE = -5
NOT_BEGUN = -7

BEGIN = 0
CHECK = 6

MOST_SENSORS = 9
MOST_LIARS = 4
MOST_BOUND = 1000000000
MOST_REPORTED = 2000000000
MOST_TICKS = 100
LAST_TICK = 99
MOST_AHEAD = 1000
MOST_LEAVES = 200

# How many numbers follow each call's own; check's row comes behind its two, the second being its count.
FOLLOWING = {
    0: 6, 1: 3, 2: 1, 3: 0, 4: 1, 5: 1, 6: 2, 7: 0, 8: 0, 9: 0,
    10: 1, 11: 1, 12: 2, 13: 2, 14: 3, 15: 1, 16: 0, 17: 1, 18: 0, 19: 1,
}


def within(number, least, most):
    return least <= number <= most


def may_begin(numbers):
    """Whether the numbers of a begin are all in their ranges."""
    n = numbers[0]
    low = numbers[2]
    return (
        within(n, 1, MOST_SENSORS)
        and within(numbers[1], 0, min(MOST_LIARS, n - 1))
        and within(low, -MOST_BOUND, MOST_BOUND)
        and within(numbers[3], low, MOST_BOUND)
        and within(numbers[4], 0, MOST_BOUND)
        and within(numbers[5], 0, MOST_BOUND)
    )


def may_report(room, numbers):
    """Whether the sensor and the interval that a call tells are in their ranges."""
    a = numbers[1]
    return (
        within(numbers[0], 0, room.n - 1)
        and within(a, -MOST_REPORTED, MOST_REPORTED)
        and within(numbers[2], a, MOST_REPORTED)
    )


def refused_report(room, numbers):
    """The refusal of such a report, or None."""
    if not may_report(room, numbers):
        return [OUT_OF_RANGE]
    if room.report_now(numbers[0]) is not None:
        return [TOLD_ALREADY]
    return None


def refused_reporter(room, sensor):
    """The refusal of a call about what this sensor has reported now, or None."""
    if not within(sensor, 0, room.n - 1):
        return [OUT_OF_RANGE]
    if room.report_now(sensor) is None:
        return [NOT_SO]
    return None


def refused_band(room, numbers):
    """The refusal of a call about a band and the truth, or None."""
    if numbers[0] > numbers[1]:
        return [OUT_OF_RANGE]
    if not room.liar_sets():
        return [NOT_SO]
    return None


def told_pieces(pieces):
    answer = [0, len(pieces)]
    for a, b in pieces:
        answer.append(a)
        answer.append(b)
    return answer


def report(room, numbers):
    refusal = refused_report(room, numbers)
    if refusal is not None:
        return refusal
    room.take_report(numbers[0], numbers[1], numbers[2])
    return [0, len(room.liar_sets())]


def tick(room, numbers):
    if not within(numbers[0], 1, MOST_TICKS):
        return [OUT_OF_RANGE]
    if room.now + numbers[0] > LAST_TICK:
        return [NO_PLACE]
    for step in range(numbers[0]):
        room.pass_tick()
    return [0, room.now]


def places(room, numbers):
    return told_pieces(room.pieces_now())


def can(room, numbers):
    return [0, 1 if room.can_be_now(numbers[0]) else 0]


def witness(room, numbers):
    told = room.least_set_with(numbers[0])
    if told is None:
        return [NOT_SO]
    return [0, told] + room.least_course(told, numbers[0])


def check(room, numbers):
    told = numbers[0]
    if not within(told, 0, (1 << room.n) - 1):
        return [OUT_OF_RANGE]
    if size_of(told) > room.f:
        return [0, 0, -1]
    wrong = room.first_wrong(told, numbers[2:])
    if wrong is None:
        return [0, 1]
    return [0, 0, wrong]


def liars(room, numbers):
    possible = room.liar_sets()
    if not possible:
        return [NOT_SO]
    shared = possible[0]
    for told in possible:
        shared = shared & told
    return [0] + [sensor for sensor in range(room.n) if has(shared, sensor)]


def fewest(room, numbers):
    possible = room.possible_sets()
    if not possible:
        return [NOT_SO]
    return [0, size_of(possible[0]), possible[0]]


def sets(room, numbers):
    return [0] + room.liar_sets()


def past(room, numbers):
    if not within(numbers[0], 0, room.now):
        return [OUT_OF_RANGE]
    return told_pieces(room.pieces_past(numbers[0]))


def ahead(room, numbers):
    if not within(numbers[0], 0, MOST_AHEAD):
        return [OUT_OF_RANGE]
    return told_pieces(room.pieces_ahead(numbers[0]))


def sure(room, numbers):
    refusal = refused_band(room, numbers)
    if refusal is not None:
        return refusal
    pieces = room.pieces_now()
    if all_within(pieces, numbers[0], numbers[1]):
        return [0, 1]
    return [0, 2 if none_within(pieces, numbers[0], numbers[1]) else 0]


def leaves(room, numbers):
    refusal = refused_band(room, numbers)
    if refusal is not None:
        return refusal
    # Some number is outside just where the least or the greatest is, so the gaps between don't matter.
    ends = room.hull_now()
    for k in range(MOST_LEAVES + 1):
        if not all_within([room.moved(ends, k)], numbers[0], numbers[1]):
            return [0, 1, k]
    return [0, 0]


def suppose(room, numbers):
    refusal = refused_report(room, numbers)
    if refusal is not None:
        return refusal
    return told_pieces(room.pieces_supposed(numbers[0], numbers[1], numbers[2]))


def trusted(room, numbers):
    refusal = refused_reporter(room, numbers[0])
    if refusal is not None:
        return refusal
    told = room.report_now(numbers[0])
    return [0, 1 if all_within(room.pieces_now(), told[1], told[2]) else 0]


def hull(room, numbers):
    ends = room.hull_now()
    if ends is None:
        return [NOT_SO]
    return [0, ends[0], ends[1]]


def reports(room, numbers):
    if not within(numbers[0], 0, room.now):
        return [OUT_OF_RANGE]
    answer = [0]
    for told in room.reports[numbers[0]]:
        answer.extend(told)
    return answer


def widths(room, numbers):
    return [0] + room.widths_so_far()


def unsay(room, numbers):
    refusal = refused_reporter(room, numbers[0])
    if refusal is not None:
        return refusal
    room.take_back(numbers[0])
    return [0]


CALLS = {
    1: report, 2: tick, 3: places, 4: can, 5: witness, 6: check, 7: liars, 8: fewest, 9: sets,
    10: past, 11: ahead, 12: sure, 13: leaves, 14: suppose, 15: trusted, 16: hull, 17: reports, 18: widths, 19: unsay,
}


def end_of_call(calls, start):
    """The place behind the call that starts at this place."""
    end = start + 1 + FOLLOWING[calls[start]]
    if calls[start] == CHECK:
        return end + calls[end - 1]
    return end


def answers(calls):
    """What the calls of one list answer, each answer with its length before it."""
    told = []
    room = None
    start = 0
    while start < len(calls):
        call = calls[start]
        end = end_of_call(calls, start)
        numbers = calls[start + 1:end]
        if call == BEGIN and may_begin(numbers):
            room = Room(numbers[0], numbers[1], numbers[2], numbers[3], numbers[4], numbers[5])
            answer = [0]
        elif call == BEGIN:
            answer = [OUT_OF_RANGE]
        elif room is None:
            answer = [NOT_BEGUN]
        else:
            answer = CALLS[call](room, numbers)
        told.append(len(answer))
        told.extend(answer)
        start = end
    return told
