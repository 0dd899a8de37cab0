"""Working trees by shears: from the root to the leaves, without building more than is asked for."""

from shearyard.trees import ends_of, starts_above


def worked(shear, tree, state, most):
    """What comes out when the tree is worked in this state, as a list; None if it has more than `most` entries.

    The tree may have leaves that are no kinds of the bed: such an entry `x`, worked in state q, becomes (q, x).
    """
    ends = ends_of(shear.bed, tree)
    out = []
    waiting = [(state, 0)]
    known = {}
    # Everything that waits becomes at least one entry, so that growth beyond all bounds ends early.
    while waiting and len(out) + len(waiting) <= most:
        item = waiting.pop()
        if not isinstance(item, tuple):
            out.append(item)
            continue
        called, place = last_call(shear, tree, ends, item, known)
        kind = tree[place]
        if kind in shear.bed.widths:
            starts = starts_above(shear.bed, tree, ends, place)
            result = shear.results[called][kind]
            waiting.extend([part(entry, starts) for entry in result[::-1]])
        else:
            out.append((called, kind))
    return None if waiting else out


def part(entry, starts):
    """What an entry of a result stands for: a kind, or a state and the place at which the called branch begins."""
    return (entry[0], starts[entry[1]]) if isinstance(entry, tuple) else entry


def last_call(shear, tree, ends, call, known):
    """The last one of a chain of calls of which each one is the whole result of the one before; `known` keeps it.

    Without `known`, a branch that is called often would have its chains followed as often.
    """
    passed = []
    while call not in known:
        passed.append(call)
        state, place = call
        result = shear.results[state].get(tree[place], ())
        if len(result) != 1 or not isinstance(result[0], tuple):
            known[call] = call
            break
        call = part(result[0], starts_above(shear.bed, tree, ends, place))
    end = known[call]
    for earlier in passed:
        known[earlier] = end
    return end


def calls_of(result):
    """The calls in a result, from left to right."""
    return [entry for entry in result if isinstance(entry, tuple)]


def renamed(result, names):
    """The result in which the calls have the names of their states."""
    return tuple([(names[entry[0]], entry[1]) if isinstance(entry, tuple) else entry for entry in result])


def reached_from(results, state):
    """The state and all states that are called in the results of states reached, ascending."""
    found = [state]
    last = 0
    while last < len(found):
        rows = list(results[found[last]].values())
        called = [other for result in rows for other, _ in calls_of(result)]
        found.extend([other for other in sorted(set(called)) if other not in found])
        last += 1
    return tuple(sorted(found))


def filled_calls(result, stands):
    """The entries of the result in which each call is replaced by what stands for it."""
    entries = []
    for entry in result:
        entries.extend(stands[entry] if isinstance(entry, tuple) else (entry,))
    return entries
