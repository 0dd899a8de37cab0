"""Listing plants one by one in preorder, led by a guide that knows which beginnings some plant has.

A guide has the methods `first()` and `after(spot, kind)`. A spot is a tuple that stands for what has been placed so
far: `first()` is the spot before the root, and `after` the spot behind one more knot. It is () if the plant is
complete, and None if no plant goes on in this way.
"""


def listed(kinds, guide):
    """Yield the plants to which the guide leads; those with equally many knots come in ascending order."""
    spots = [guide.first()]
    plant = []
    rank = 0
    while spots:
        if rank == len(kinds):
            spots.pop()
            if plant:
                rank = kinds.index(plant.pop()) + 1
            continue
        spot = guide.after(spots[-1], kinds[rank])
        if spot is None:
            rank += 1
        elif spot == ():
            yield tuple([*plant, kinds[rank]])
            rank += 1
        else:
            plant.append(kinds[rank])
            spots.append(spot)
            rank = 0
