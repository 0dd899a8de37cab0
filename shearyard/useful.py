"""Useful states: those of plants that stand in some marked plant."""


def useful_states(reader):
    """The states that a plant needs to stand in a marked plant, as the keys of a dict; all states have plants."""
    above = {state: {} for state in range(reader.states)}
    for _, below, result in reader.table():
        for state in below:
            above[result][state] = True
    useful = {mark: True for mark in reader.marks}
    waiting = list(useful)
    while waiting:
        last = waiting.pop()
        for state in above[last]:
            if state not in useful:
                useful[state] = True
                waiting.append(state)
    return useful
