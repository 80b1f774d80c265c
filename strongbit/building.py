"""Machines built from states: tuples that say where a station is, before rows have indexes."""


def built_machine(begins, row_at):
    """The rows of all states that are met from some states, which come first in their order.

    A function gives the row of a state, in which states stand in the place of indexes.
    """
    indexes = {}
    for state in begins:
        indexes[state] = len(indexes)
    states = list(begins)
    rows = []
    while len(rows) < len(states):
        put, on_strong, on_weak = row_at(states[len(rows)])
        row = [put]
        for follower in (on_strong, on_weak):
            if isinstance(follower, tuple) and follower not in indexes:
                indexes[follower] = len(indexes)
                states.append(follower)
            row.append(indexes[follower] if isinstance(follower, tuple) else follower)
        rows.append(tuple(row))
    return rows
