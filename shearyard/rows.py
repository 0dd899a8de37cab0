"""Rows of states, and those among them in which a new state stands."""


def all_rows(states, many):
    """All rows of that many of these states, in the order of the states."""
    return rows_from([states] * many)


def rows_from(lists):
    """All rows with one state of each list, in the order of the lists."""
    rows = [()]
    for states in lists:
        rows = [row + (state,) for row in rows for state in states]
    return rows


def rows_with(last, many):
    """All rows of that many states from 0 to `last` in which `last` stands."""
    earlier = list(range(last))
    found = []
    for place in range(many):
        # Where `last` stands first, so that no row is found twice.
        before = all_rows(earlier, place)
        behind = all_rows([*earlier, last], many - 1 - place)
        found.extend([row + (last,) + rest for row in before for rest in behind])
    return found
