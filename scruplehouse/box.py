"""The box: to which differences its weights can be laid on two pans, and how heavy the right pan must be for each.

A difference is what the right pan's weights come to less what the left pan's come to; heaviness is what the right
pan's come to.
"""


def lay(level, weight):
    """The level behind this one, with one weight more that is left out, laid right or laid left."""
    least = {}
    for difference, heaviness in level:
        left_out = (difference, heaviness)
        laid_right = (difference + weight, heaviness + weight)
        laid_left = (difference - weight, heaviness)
        for reached, needed in (left_out, laid_right, laid_left):
            if reached not in least or needed < least[reached]:
                least[reached] = needed
    return sorted(least.items())


def levels(box):
    """For none, one, two .. of the first weights the sorted differences, each with its least heaviness."""
    told = [[(0, 0)]]
    for weight in box:
        told.append(lay(told[-1], weight))
    return told
