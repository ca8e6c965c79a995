"""The pans: how a load is weighed with a box, and which loads a balance weighs."""

from scruplehouse.box import levels


def pans(box, load):
    """The weights (left, right) that weigh the load with the least heaviness, None where none do."""
    reached = levels(box)
    difference = load
    heaviness = dict(reached[-1]).get(load)
    if heaviness is None:
        return None
    left = []
    right = []
    # Each weight stands beside the level ahead of it: where what is still to be laid has its least heaviness there,
    # the weight was laid so. One of the three ways always fits, as the level behind was made of this one.
    for weight, level in reversed(list(zip(box, reached))):
        ahead = dict(level)
        if ahead.get(difference) == heaviness:
            continue
        if ahead.get(difference - weight) == heaviness - weight:
            right.append(weight)
            difference = difference - weight
            heaviness = heaviness - weight
        else:
            left.append(weight)
            difference = difference + weight
    return (sorted(left), sorted(right))


def loads(box, balance):
    """The sorted loads from the balance's least to its greatest that a right pan up to its greatest can weigh."""
    least = balance[0]
    greatest = balance[1]
    return [load for load, heaviness in levels(box)[-1] if least <= load <= greatest and heaviness <= greatest]
