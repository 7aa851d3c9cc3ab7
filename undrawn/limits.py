"""The limits that the document sets."""

# A space has less than 10 ** DIGITS objects.
DIGITS = 4000

# The number of answers that are listed unless the caller asks for another one.
LIMIT = 500

# Leaves of a space, each counted as often as a power or a decorated space repeats it.
LEAVES = 2000

# n of a subset, word, decorated space, arrangement, cycle, tree and power.
MOST_PLACES = 400

# n of a walk, permutation and string.
MOST_STEPS = 60

# m of a matching.
MOST_PAIRS = 200

# The heights of a walk lie from -HIGHEST to HIGHEST.
HIGHEST = 60

# Distinct letters of a word, a decorated space and an automaton.
MOST_LETTERS = 6

MOST_MOVES = 48

# The states of an automaton are numbered from 0 to LAST_STATE.
LAST_STATE = 7

# Spaces or orders in one tuple.
MOST_NESTED = 6

# The depth of nested spaces, and also that of nested orders.
DEEPEST = 6

MOST_PARTS = 40

LONGEST_NAME = 6

# Users of a shared sampler.
MOST_USERS = 6
