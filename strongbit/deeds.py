"""The form of deeds and of their faults."""

from strongbit.machines import is_number


def is_fault(value):
    """Whether a value has the form of a fault."""
    if not isinstance(value, tuple) or len(value) != 2:
        return False
    bit, station = value
    return is_number(bit) and is_number(station) and bit >= 0 and station >= 0


def is_fault_tuple(value):
    """Whether a value is a tuple of faults, ascending and without duplicates."""
    if not isinstance(value, tuple) or not all([is_fault(item) for item in value]):
        return False
    return all([value[index] < value[index + 1] for index in range(len(value) - 1)])


def is_deed(value):
    """Whether a value has the form of a deed, with any values as station and frame."""
    if not isinstance(value, tuple) or len(value) == 0:
        return False
    if value[0] == "offer":
        return len(value) == 3
    if value[0] == "fall":
        return len(value) == 2
    if value[0] == "send":
        return len(value) == 3 and is_fault_tuple(value[1]) and is_fault_tuple(value[2])
    return False


def ordered_faults(faults):
    """A list of faults as it stands in a deed."""
    return tuple(sorted([(bit, station) for bit, station in faults]))
