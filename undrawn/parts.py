"""The parts of a space and the paths that lead to them."""

from undrawn.values import is_between, is_tuple


def part_at(space, path):
    """The part to which any value leads as a path, or None if it is no path of the space."""
    if not isinstance(path, tuple):
        return None
    part = space
    for step in path:
        part = next_part(part, step)
        if part is None:
            return None
    return part


def next_part(part, step):
    """The part to which any value leads as a step from this part, or None."""
    kind = part[0]
    if kind in ("product", "choice") and is_between(step, 0, len(part[1]) - 1):
        return part[1][step]
    if kind == "power" and is_between(step, 0, part[1] - 1):
        return part[2]
    if kind == "decorated" and is_tuple(step, 2, 2):
        letter, occurrence = step
        for pair, inner in zip(part[1], part[2]):
            if letter == pair[0] and is_between(occurrence, 0, pair[1] - 1):
                return inner
    return None


def parts_along(space, path):
    """Each part on the way along a path with the path that leads to it, the space first, in a list."""
    found = [((), space)]
    for at, step in enumerate(path):
        found.append((path[:at + 1], next_part(found[at][1], step)))
    return found
