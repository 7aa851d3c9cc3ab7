"""A console, which executes lines of text with a sampler."""

from undrawn.answer_text import format_answer, format_item
from undrawn.errors import InvalidLine, ParseError
from undrawn.numerals import read_natural
from undrawn.query_text import parse_query
from undrawn.samplers import Sampler
from undrawn.space_text import parse_space


class Console:
    """Holds one sampler, which is there as soon as a line has created it."""

    def __init__(self):
        self.held = None

    def run(self, line):
        """The text that a line returns, which may be any value."""
        word, argument = read_line(line)
        if word == "new":
            seed, space = argument
            self.held = Sampler(space, seed)
            return "ok"
        if self.held is None:
            raise InvalidLine(line)
        execute = COMMANDS[word]
        return execute(self.held, argument)

    def sampler(self):
        """The sampler itself, or None."""
        return self.held


def read_line(line):
    """The first word of a line, any value, and what the rest of it stands for."""
    if not isinstance(line, str):
        raise InvalidLine(line)
    try:
        return read_command(line)
    except ParseError:
        raise InvalidLine(line) from None


def read_command(line):
    """As `read_line`, for a string."""
    if line in ("bound", "seed", "history", "complete"):
        return line, None
    word, _, rest = line.partition(" ")
    if word == "new":
        seed, _, space = rest.partition(" : ")
        return word, (read_natural(seed), parse_space(space))
    if word == "ask":
        return word, parse_query(rest)
    if word in ("retract", "rewind"):
        return word, read_natural(rest)
    raise ParseError("the line does not begin with a command")


def run_ask(sampler, query):
    return format_answer(sampler.ask(query))


def run_retract(sampler, index):
    sampler.retract(index)
    return "ok"


def run_rewind(sampler, length):
    sampler.rewind(length)
    return "ok"


def run_bound(sampler, _):
    return str(sampler.bound_now())


def run_seed(sampler, _):
    return str(sampler.seed_now())


def run_history(sampler, _):
    return str(len(sampler))


def run_complete(sampler, _):
    return format_item(sampler.complete())


COMMANDS = {
    "ask": run_ask,
    "retract": run_retract,
    "rewind": run_rewind,
    "bound": run_bound,
    "seed": run_seed,
    "history": run_history,
    "complete": run_complete,
}
