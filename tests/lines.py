"""Writing lists of calls and taking answers apart, for the tests."""

from lyingsensors.sensors import answers

NUMBERS = {
    "begin": 0, "report": 1, "tick": 2, "places": 3, "can": 4,
    "witness": 5, "check": 6, "liars": 7, "fewest": 8, "sets": 9,
    "past": 10, "ahead": 11, "sure": 12, "leaves": 13, "suppose": 14,
    "trusted": 15, "hull": 16, "reports": 17, "widths": 18, "unsay": 19,
}


def begin(n=3, f=1, low=0, high=100, down=1, up=2):
    return ("begin", n, f, low, high, down, up)


def written(calls):
    """The flat list of calls such as ("report", 0, 1, 2); a row is a list."""
    flat = []
    for call in calls:
        flat.append(NUMBERS[call[0]])
        for part in call[1:]:
            if isinstance(part, list):
                flat.append(len(part))
                flat.extend(part)
            else:
                flat.append(part)
    return flat


def taken_apart(told):
    """One list for each answer."""
    parts = []
    at = 0
    while at < len(told):
        parts.append(told[at + 1:at + 1 + told[at]])
        at += 1 + told[at]
    return parts


def run(*calls):
    return taken_apart(answers(written(calls)))


def last(*calls):
    return run(*calls)[-1]
