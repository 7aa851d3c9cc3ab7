"""All objects of a small space, found by trying everything that its definition could mean."""

from itertools import permutations, product


def objects_of(space):
    """A list of all objects of the space, each once."""
    return FINDERS[space[0]](*space[1:])


def subsets(n, k):
    return [tuple(p for p in range(n) if flags[p]) for flags in product((False, True), repeat=n) if sum(flags) == k]


def words(counts):
    letters = [letter for letter, count in counts]
    n = sum(count for letter, count in counts)
    return [word for word in product(letters, repeat=n) if all(word.count(a) == c for a, c in counts)]


def names_in(order):
    return [order[1]] if order[0] == "item" else [name for inner in order[1] for name in names_in(inner)]


def obeys(arrangement, order):
    if order[0] == "item":
        return True
    if not all(obeys(arrangement, inner) for inner in order[1]):
        return False
    if order[0] == "parallel":
        return True
    places = [[arrangement.index(name) for name in names_in(inner)] for inner in order[1]]
    return all(max(before) < min(after) for before, after in zip(places, places[1:]))


def arrangements(order):
    return [names for names in permutations(names_in(order)) if obeys(names, order)]


def walks(n, start, end, low, high):
    found = [(start,)]
    for _ in range(n):
        found = [walk + (h,) for walk in found for h in range(low, high + 1) if abs(h - walk[-1]) == 1]
    return [walk for walk in found if walk[-1] == end]


def is_cycle(successors):
    seat, visited = successors[0], [0]
    while seat != 0 and len(visited) <= len(successors):
        visited.append(seat)
        seat = successors[seat]
    return sorted(visited) == list(range(len(successors)))


def cycles(n):
    return [s for s in product(range(n), repeat=n) if is_cycle(s)]


def matchings(m):
    seats = range(2 * m)
    return [p for p in permutations(seats) if all(p[i] != i and p[p[i]] == i for i in seats)]


def moved_permutations(n, moved):
    return [p for p in permutations(range(n)) if all(p[i] != i for i in moved)]


def reaches_root(parents, node):
    for _ in parents:
        node = node if parents[node] is None else parents[node]
    return node == 0


def trees(n):
    candidates = [(None,) + rest for rest in product(range(n), repeat=n - 1)]
    return [parents for parents in candidates if all(reaches_root(parents, v) for v in range(n))]


def strings(automaton, n):
    moves, accepting = automaton
    return [word for word in product(sorted({move[1] for move in moves}), repeat=n) if ends_in(moves, word, accepting)]


def ends_in(moves, word, accepting):
    table = {(state, letter): reached for state, letter, reached in moves}
    state = 0
    for letter in word:
        state = table.get((state, letter))
    return state in accepting


def products(spaces):
    return list(product(*[objects_of(space) for space in spaces]))


def choices(spaces):
    return [(index, obj) for index, space in enumerate(spaces) for obj in objects_of(space)]


def powers(n, space):
    return list(product(objects_of(space), repeat=n))


def decorations(counts, spaces):
    attached = {letter: objects_of(space) for (letter, count), space in zip(counts, spaces)}
    return [
        tuple(zip(word, objs)) for word in words(counts) for objs in product(*[attached[letter] for letter in word])
    ]


FINDERS = {
    "subset": subsets,
    "word": words,
    "arrangement": arrangements,
    "walk": walks,
    "cycle": cycles,
    "matching": matchings,
    "permutation": moved_permutations,
    "tree": trees,
    "string": strings,
    "product": products,
    "choice": choices,
    "power": powers,
    "decorated": decorations,
}
