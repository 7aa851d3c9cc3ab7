"""The text of an answer."""


def format_answer(answer):
    """The text of an answer, whether or not some object gives it."""
    selections, result = answer
    if len(result) == 0:
        return f"other {selections[-1]}"
    return format_item(result[0])


def format_item(item):
    """The text of an item of an answer, and also of an object."""
    if item is None:
        return "none"
    if isinstance(item, bool):
        return "yes" if item else "no"
    if isinstance(item, tuple):
        return "[" + " ".join([format_item(part) for part in item]) + "]"
    return str(item)
