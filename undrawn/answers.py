"""The answers that an object gives."""

from undrawn.orders import names_of


def answer_to(space, obj, query):
    """The answer of the object to the query."""
    selections = ()
    part = space
    item = obj
    for step in query[0]:
        if part[0] == "choice":
            selections = selections + (item[0],)
            if item[0] != step:
                return selections, ()
        part, item = step_in(part, item, step)
    describe = DESCRIPTIONS[part[0]]
    return selections, (describe(part, item, query[1], query[2:]),)


def step_in(part, item, step):
    """The nested part to which the step leads, with the object of it in this object."""
    kind = part[0]
    if kind == "choice":
        return part[1][step], item[1]
    if kind == "product":
        return part[1][step], item[step]
    if kind == "power":
        return part[2], item[step]
    letter, occurrence = step
    at = [pair[0] for pair in part[1]].index(letter)
    return part[2][at], [pair[1] for pair in item if pair[0] == letter][occurrence]


def describe_subset(part, item, word, arguments):
    if word == "contains":
        return arguments[0] in item
    if word == "rank":
        return len([member for member in item if member < arguments[0]])
    return item[arguments[0]]


def describe_word(part, item, word, arguments):
    letters = [pair[0] for pair in part[1]]
    if word == "select":
        place = places_of(item, arguments[0])[arguments[1]]
        return place, count_each(letters, item[:place])
    place = arguments[0]
    if word == "letter":
        return item[place]
    before = count_each(letters, item[:place])
    if word == "prefix":
        return before
    return before, item[place]


def describe_decorated(part, item, word, arguments):
    return describe_word(part, [pair[0] for pair in item], word, arguments)


def places_of(row, wanted):
    """The places in a row where the wanted item stands, in a list."""
    return [place for place, item in enumerate(row) if item == wanted]


def count_each(letters, row):
    """How often each of the letters stands in a row, in a tuple."""
    return tuple([len(places_of(row, letter)) for letter in letters])


def describe_arrangement(part, item, word, arguments):
    name = item[arguments[0]] if word == "entry" else arguments[0]
    place = item.index(name)
    earlier = {other: True for other in item[:place]}
    turns = [(count_among(order, earlier), index) for order, index in parallels_of(part[1], name)]
    if word == "entry":
        return tuple(turns), name
    return tuple([(sum(before), before) for before, _ in reversed(turns)]), place


def parallels_of(order, name):
    """The parallel orders that contain the name, outermost first, each with the index of its order that does."""
    word, rest = order
    if word == "item":
        return []
    index = [name in names_of(inner) for inner in rest].index(True)
    deeper = parallels_of(rest[index], name)
    return [(order, index)] + deeper if word == "parallel" else deeper


def count_among(order, names):
    """How many of the names in a dict belong to each order in a parallel one."""
    return tuple([len([name for name in names_of(inner) if name in names]) for inner in order[1]])


def describe_walk(part, item, word, arguments):
    if word == "height":
        return item[arguments[0]]
    if word in ("up", "down"):
        rise = 1 if word == "up" else -1
        steps = [after - before for before, after in zip(item, item[1:])]
        return places_of(steps, rise)[arguments[0]]
    time, height = arguments
    visits = places_of(item, height)
    if word == "first_visit":
        return item[time], tuple([visit for visit in visits if visit >= time][:1])
    return item[time], tuple([visit for visit in visits if visit <= time][-1:])


def describe_cycle(part, item, word, arguments):
    if word == "successor":
        return item[arguments[0]]
    return item.index(arguments[0])


def describe_matching(part, item, word, arguments):
    return item[arguments[0]]


def describe_permutation(part, item, word, arguments):
    if word == "image":
        return item[arguments[0]]
    return item.index(arguments[0])


def describe_tree(part, item, word, arguments):
    return item[arguments[0]]


def describe_string(part, item, word, arguments):
    place = arguments[0]
    if word == "letter":
        return item[place]
    if word == "letter_in":
        return item[place] in arguments[1]
    state = state_after(part[1], item[:place])
    return state if word == "state" else state in arguments[1]


def state_after(automaton, letters):
    """The state to which the letters lead from state 0."""
    table = {(state, letter): reached for state, letter, reached in automaton[0]}
    state = 0
    for letter in letters:
        state = table[(state, letter)]
    return state


def describe_choice(part, item, word, arguments):
    return item[0]


DESCRIPTIONS = {
    "subset": describe_subset,
    "word": describe_word,
    "arrangement": describe_arrangement,
    "walk": describe_walk,
    "cycle": describe_cycle,
    "matching": describe_matching,
    "permutation": describe_permutation,
    "tree": describe_tree,
    "string": describe_string,
    "choice": describe_choice,
    "decorated": describe_decorated,
}
