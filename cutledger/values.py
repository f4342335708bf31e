"""What more than one module asks of a value before it uses it."""


def is_integer(value, low, high):
    """Whether a value is an integer from low to high; True and False are none."""
    return isinstance(value, int) and not isinstance(value, bool) and low <= value <= high


def is_count(value):
    """Whether a value is an integer from 0 on, however great."""
    return isinstance(value, int) and not isinstance(value, bool) and value >= 0


def is_tuple_of(value, least, most):
    """Whether a value is a tuple of so many things, whatever they are."""
    return isinstance(value, tuple) and least <= len(value) <= most


def are_bytes(value, least, most):
    """Whether a value is a tuple of so many integers from 0 to 255."""
    if not is_tuple_of(value, least, most):
        return False
    # Images have thousands of bytes, so each is looked at with no call of its own.
    for byte in value:
        if not isinstance(byte, int) or isinstance(byte, bool) or byte < 0 or byte > 255:
            return False
    return True
