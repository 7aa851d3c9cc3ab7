"""Automata, which decide which strings belong to a space."""

from undrawn.limits import LAST_STATE, MOST_LETTERS, MOST_MOVES
from undrawn.values import is_ascending, is_between, is_name, is_tuple


def is_automaton(value):
    """Whether any value is an automaton within the limits."""
    if not is_tuple(value, 2, 2):
        return False
    moves, accepting = value
    return are_moves(moves) and are_states(accepting)


def are_moves(moves):
    """Whether any value is the moves of an automaton."""
    if not is_tuple(moves, 0, MOST_MOVES) or not all([is_move(move) for move in moves]):
        return False
    letters = [move[1] for move in moves]
    # That these ascend also says that no state has two moves with one letter.
    starts = [(move[0], move[1]) for move in moves]
    return is_ascending(starts) and len(set(letters)) <= MOST_LETTERS


def is_move(move):
    """Whether any value is a move."""
    if not is_tuple(move, 3, 3):
        return False
    state, letter, reached = move
    return is_state(state) and is_name(letter) and is_state(reached)


def is_state(value):
    """Whether any value is a state."""
    return is_between(value, 0, LAST_STATE)


def are_states(value):
    """Whether any value is an ascending tuple of states."""
    if not is_tuple(value, 0, LAST_STATE + 1):
        return False
    return all([is_state(state) for state in value]) and is_ascending(value)


def count_strings(automaton, n):
    """The number of strings of n letters that lead to an accepting state."""
    moves, accepting = automaton
    ways = {0: 1}
    for _ in range(n):
        ways = move_on(moves, ways)
    return sum([ways.get(state, 0) for state in accepting])


def move_on(moves, ways):
    """From the number of strings that lead to each state to that for strings one letter longer."""
    longer = {}
    for state, _, reached in moves:
        longer[reached] = longer.get(reached, 0) + ways.get(state, 0)
    return longer
