"""What counts as an integer: bools do not."""


def is_integer(value):
    """Tell whether value is an int that is not a bool."""
    return isinstance(value, int) and not isinstance(value, bool)


def is_integer_from_to(value, least, most):
    """Tell whether value is an integer from least to most."""
    return is_integer(value) and least <= value <= most
