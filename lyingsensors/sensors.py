"""The calls on one room, read from a list of whole numbers, and their answers.

Each call refuses before it changes anything, so that after a refusal all is as it was.
"""

from lyingsensors.room import Room, has, size_of

OUT_OF_RANGE = -1
TOLD_ALREADY = -3
NOT_SO = -4
NO_PLACE = -5
NOT_BEGUN = -7

BEGIN = 0
CHECK = 6

MOST_SENSORS = 9
MOST_LIARS = 4
MOST_BOUND = 1000000000
MOST_REPORTED = 2000000000
MOST_TICKS = 100
LAST_TICK = 99

# How many numbers follow each call's own; check's row comes behind its two, the second being its count.
FOLLOWING = {0: 6, 1: 3, 2: 1, 3: 0, 4: 1, 5: 1, 6: 2, 7: 0, 8: 0, 9: 0}


def within(number, least, most):
    return least <= number <= most


def may_begin(numbers):
    """Whether the numbers of a begin are all in their ranges."""
    n = numbers[0]
    low = numbers[2]
    return (
        within(n, 1, MOST_SENSORS)
        and within(numbers[1], 0, min(MOST_LIARS, n - 1))
        and within(low, -MOST_BOUND, MOST_BOUND)
        and within(numbers[3], low, MOST_BOUND)
        and within(numbers[4], 0, MOST_BOUND)
        and within(numbers[5], 0, MOST_BOUND)
    )


def may_report(room, numbers):
    """Whether the sensor and the interval that a call tells are in their ranges."""
    a = numbers[1]
    return (
        within(numbers[0], 0, room.n - 1)
        and within(a, -MOST_REPORTED, MOST_REPORTED)
        and within(numbers[2], a, MOST_REPORTED)
    )


def report(room, numbers):
    if not may_report(room, numbers):
        return [OUT_OF_RANGE]
    if room.has_reported(numbers[0]):
        return [TOLD_ALREADY]
    room.take_report(numbers[0], numbers[1], numbers[2])
    return [0, len(room.liar_sets())]


def tick(room, numbers):
    if not within(numbers[0], 1, MOST_TICKS):
        return [OUT_OF_RANGE]
    if room.now + numbers[0] > LAST_TICK:
        return [NO_PLACE]
    for step in range(numbers[0]):
        room.pass_tick()
    return [0, room.now]


def places(room, numbers):
    pieces = room.pieces_now()
    answer = [0, len(pieces)]
    for a, b in pieces:
        answer.append(a)
        answer.append(b)
    return answer


def can(room, numbers):
    return [0, 1 if room.can_be_now(numbers[0]) else 0]


def witness(room, numbers):
    told = room.least_set_with(numbers[0])
    if told is None:
        return [NOT_SO]
    return [0, told] + room.least_course(told, numbers[0])


def check(room, numbers):
    told = numbers[0]
    if not within(told, 0, (1 << room.n) - 1):
        return [OUT_OF_RANGE]
    if size_of(told) > room.f:
        return [0, 0, -1]
    wrong = room.first_wrong(told, numbers[2:])
    if wrong is None:
        return [0, 1]
    return [0, 0, wrong]


def liars(room, numbers):
    possible = room.liar_sets()
    if not possible:
        return [NOT_SO]
    shared = possible[0]
    for told in possible:
        shared = shared & told
    return [0] + [sensor for sensor in range(room.n) if has(shared, sensor)]


def fewest(room, numbers):
    possible = room.possible_sets()
    if not possible:
        return [NOT_SO]
    return [0, size_of(possible[0]), possible[0]]


def sets(room, numbers):
    return [0] + room.liar_sets()


CALLS = {1: report, 2: tick, 3: places, 4: can, 5: witness, 6: check, 7: liars, 8: fewest, 9: sets}


def end_of_call(calls, start):
    """The place behind the call that starts at this place."""
    end = start + 1 + FOLLOWING[calls[start]]
    if calls[start] == CHECK:
        return end + calls[end - 1]
    return end


def answers(calls):
    """What the calls of one list answer, each answer with its length before it."""
    told = []
    room = None
    start = 0
    while start < len(calls):
        call = calls[start]
        end = end_of_call(calls, start)
        numbers = calls[start + 1:end]
        if call == BEGIN and may_begin(numbers):
            room = Room(numbers[0], numbers[1], numbers[2], numbers[3], numbers[4], numbers[5])
            answer = [0]
        elif call == BEGIN:
            answer = [OUT_OF_RANGE]
        elif room is None:
            answer = [NOT_BEGUN]
        else:
            answer = CALLS[call](room, numbers)
        told.append(len(answer))
        told.extend(answer)
        start = end
    return told
