"""How numbers and places are written."""


def natural_of(text, most):
    """The number that a text writes without a sign, or None if it writes none up to the given one."""
    # The length is asked first: Python refuses to read numbers of some thousand digits.
    if not text.isdigit() or len(text) > len(str(most)):
        return None
    number = int(text)
    return number if str(number) == text and number <= most else None


def integer_of(text, most):
    """The number that a text writes, or None if it writes none of at most this size."""
    if not text.startswith("-"):
        return natural_of(text, most)
    size = natural_of(text[1:], most)
    return None if size is None or size == 0 else -size


def place_of(text, most):
    """The pair of numbers that a text writes with a dot between, or None."""
    lane, dot, at = text.partition(".")
    place = (natural_of(lane, most), natural_of(at, most))
    return None if None in place else place


def place_text(place):
    """The text of a place."""
    lane, at = place
    return f"{lane}.{at}"
