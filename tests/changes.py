"""Values that differ from a good one in one thing, and wrong values of every kind."""

import copy

ODDITIES = [None, True, False, 0, 1, -1, 10**4000 - 1, "", "a", "zz", (), [], {}, (0,), [0], {"a": 1}, ((),), ("a", 0), (0, "a")]


def nested_value(depth):
    value = 0
    for k in range(depth - 1):
        value = [value] if k % 2 else (value,)
    return value


ODDITIES += [nested_value(40), tuple(range(5000)), [None] * 9000, "x" * 4000, "a\nb"]


def changed(value):
    """The value with one thing changed in it, in every way that is tried, in a list."""
    found = [item for item in (None, [value], (value,), "a", -1) if repr(item) != repr(value)]
    if isinstance(value, bool):
        return found + [int(value), not value]
    if isinstance(value, int):
        return found + [value + 1, value - 1, str(value)] + ([bool(value)] if value in (0, 1) else [])
    if isinstance(value, str):
        return found + [value + "a", value[:-1], value.upper(), list(value)]
    if isinstance(value, tuple):
        found += [list(value), value + (0,), value + value[-1:], value[::-1]]
        for k, item in enumerate(value):
            found += [value[:k] + value[k + 1:], value[:k] + value[k:k + 1] + value[k:]]
            found += [value[:k] + (other,) + value[k + 1:] for other in changed(item)]
        return [item for item in found if repr(item) != repr(value)]
    return found


def unchanged(function, *arguments):
    """Calls the function twice; tells whether both results are the same and the arguments stay as they were."""
    kept = copy.deepcopy(arguments)
    first, second = function(*arguments), function(*arguments)
    return repr(first) == repr(second) and repr(kept) == repr(arguments)
