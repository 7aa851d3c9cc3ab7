"""All queries of a small space, and their answers, straight from the words of the document."""

from itertools import combinations

from tests.brute import names_in


def queries_of(space):
    """A list of the queries of the space; of the heights and tuples that have no bounds it has some."""
    return [(path,) + question for path, part in parts_of(space) for question in questions_of(*part)]


def parts_of(space):
    found = [((), space)]
    for step, inner in nested_in(space):
        found += [((step,) + path, part) for path, part in parts_of(inner)]
    return found


def nested_in(space):
    if space[0] in ("product", "choice"):
        return list(enumerate(space[1]))
    if space[0] == "power":
        return [(copy, space[2]) for copy in range(space[1])]
    if space[0] == "decorated":
        return [((letter, j), inner) for (letter, count), inner in zip(*space[1:]) for j in range(count)]
    return []


def questions_of(kind, *rest):
    find = QUESTIONS.get(kind)
    return find(*rest) if find else []


def each(word, numbers):
    return [(word, number) for number in numbers]


def subset_questions(n, k):
    return each("contains", range(n)) + each("rank", range(n + 1)) + each("select", range(k))


def word_questions(counts, spaces=()):
    n = sum(count for letter, count in counts)
    found = each("letter", range(n)) + each("prefix", range(n + 1)) + each("entry", range(n))
    return found + [("select", letter, j) for letter, count in counts for j in range(count)]


def arrangement_questions(order):
    names = names_in(order)
    return each("entry", range(len(names))) + each("locate", names)


def walk_questions(n, start, end, low, high):
    heights = range(max(low, -4) - 2, min(high, 4) + 3)
    found = each("height", range(n + 1))
    found += [(word, t, h) for word in ("first_visit", "last_visit") for t in range(n + 1) for h in heights]
    if (n + end - start) % 2 == 0:
        found += each("up", range((n + end - start) // 2)) + each("down", range((n - end + start) // 2))
    return found


def cycle_questions(n):
    return each("successor", range(n)) + each("predecessor", range(n))


def matching_questions(m):
    return each("partner", range(2 * m))


def permutation_questions(n, moved):
    return each("image", range(n)) + each("preimage", range(n))


def tree_questions(n):
    return each("parent", range(1, n))


def some_tuples(items):
    return [()] + [pick for size in (1, 2, len(items)) for pick in combinations(items, size)]


def string_questions(automaton, n):
    letters = sorted({move[1] for move in automaton[0]} | {"zzz"})
    found = each("letter", range(n)) + each("state", range(n + 1))
    found += [("letter_in", p, some) for p in range(n) for some in some_tuples(letters)]
    return found + [("state_in", p, some) for p in range(n + 1) for some in ((), (0,), (1, 7), tuple(range(8)))]


def choice_questions(spaces):
    return [("selected",)]


QUESTIONS = {
    "subset": subset_questions,
    "word": word_questions,
    "decorated": word_questions,
    "arrangement": arrangement_questions,
    "walk": walk_questions,
    "cycle": cycle_questions,
    "matching": matching_questions,
    "permutation": permutation_questions,
    "tree": tree_questions,
    "string": string_questions,
    "choice": choice_questions,
}


def answer_of(space, obj, query):
    """The answer of an object, by the words of the document."""
    selections, part, item = [], space, obj
    for step in query[0]:
        if part[0] == "choice":
            selections.append(item[0])
            if item[0] != step:
                return tuple(selections), ()
            part, item = part[1][step], item[1]
        elif part[0] == "decorated":
            item = [attached for letter, attached in item if letter == step[0]][step[1]]
            part = dict(nested_in(part))[step]
        else:
            part, item = dict(nested_in(part))[step], item[step]
    return tuple(selections), (ITEMS[query[1]](part, item, *query[2:]),)


def prefix_at(part, word, p):
    return tuple(sum(1 for q in range(p) if word[q] == letter) for letter, count in part[1])


def letters_of(part, item):
    return [letter for letter, attached in item] if part[0] == "decorated" else item


def entry(part, item, p):
    if part[0] == "arrangement":
        return tuple((before, index) for before, index in steps_to(part[1], item, item[p])), item[p]
    word = letters_of(part, item)
    return prefix_at(part, word, p), word[p]


def select(part, item, *arguments):
    if part[0] == "subset":
        return item[arguments[0]]
    letter, j = arguments
    word = letters_of(part, item)
    p = [q for q in range(len(word)) if word[q] == letter][j]
    return p, prefix_at(part, word, p)


def letter_at(part, item, p):
    return letters_of(part, item)[p]


def steps_to(order, names, name):
    """For each parallel order that contains the name, outermost first, the numbers before it and the index."""
    if order[0] == "item":
        return []
    [index] = [k for k, inner in enumerate(order[1]) if name in names_in(inner)]
    inner_steps = steps_to(order[1][index], names, name)
    if order[0] == "series":
        return inner_steps
    earlier = names[:names.index(name)]
    before = tuple(sum(1 for other in names_in(inner) if other in earlier) for inner in order[1])
    return [(before, index)] + inner_steps


def locate(part, item, name):
    steps = [(sum(before), before) for before, index in steps_to(part[1], item, name)]
    return tuple(steps[::-1]), item.index(name)


def visit(item, t, h, times):
    found = [u for u in times if item[u] == h]
    return item[t], (found[0],) if found else ()


def turn(item, j, rise):
    return [t for t in range(len(item) - 1) if item[t + 1] == item[t] + rise][j]


def states_of(part, item):
    states, moves = [0], part[1][0]
    for letter in item:
        [reached] = [after for before, label, after in moves if before == states[-1] and label == letter]
        states.append(reached)
    return states


ITEMS = {
    "contains": lambda part, item, p: p in item,
    "rank": lambda part, item, p: sum(1 for member in item if member < p),
    "select": select,
    "letter": letter_at,
    "prefix": lambda part, item, p: prefix_at(part, letters_of(part, item), p),
    "entry": entry,
    "locate": locate,
    "height": lambda part, item, t: item[t],
    "first_visit": lambda part, item, t, h: visit(item, t, h, range(t, len(item))),
    "last_visit": lambda part, item, t, h: visit(item, t, h, range(t, -1, -1)),
    "up": lambda part, item, j: turn(item, j, 1),
    "down": lambda part, item, j: turn(item, j, -1),
    "successor": lambda part, item, i: item[i],
    "predecessor": lambda part, item, i: [seat for seat in range(len(item)) if item[seat] == i][0],
    "partner": lambda part, item, i: item[i],
    "image": lambda part, item, p: item[p],
    "preimage": lambda part, item, i: [place for place in range(len(item)) if item[place] == i][0],
    "parent": lambda part, item, v: item[v],
    "state": lambda part, item, p: states_of(part, item)[p],
    "letter_in": lambda part, item, p, letters: item[p] in letters,
    "state_in": lambda part, item, p, states: states_of(part, item)[p] in states,
    "selected": lambda part, item: item[0],
}
