"""What several files ask of values: whether one is a number, a list or such, whether several rise or are unlike."""


def is_number(value, least):
    """Whether value is a number and not below least."""
    # Python counts True and False as whole numbers, the program doesn't.
    return isinstance(value, int) and not isinstance(value, bool) and value >= least


def is_list(value):
    """Whether value may stand where a list is asked for."""
    return isinstance(value, (list, tuple))


def is_tuple_of(value, many):
    """Whether value is a tuple of so many parts."""
    return isinstance(value, tuple) and len(value) == many


def are_unlike(values):
    """Whether none of the values stands there twice."""
    return len(set(values)) == len(values)


def are_rising(numbers):
    """Whether each of the numbers is greater than the one ahead."""
    for place in range(1, len(numbers)):
        if numbers[place] <= numbers[place - 1]:
            return False
    return True
