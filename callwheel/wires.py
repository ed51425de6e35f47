"""Parts of wire: which boxes feel one another by the cuts of a town, and which are dumb [7]."""


def wire_parts(town, cuts, joined):
    """The parts of the town's wire, a tuple of tuples of numbers: near ahead of far, one where it is joined."""
    parts = [part for loop, stretches in zip(town[0], cuts) for part in loop_parts(loop, stretches)]
    if joined:
        return (tuple(number for part in parts for number in part),)
    return tuple(parts)


def loop_parts(loop, stretches):
    """The near and the far part of a loop by its cut stretches; all of it, once, where none is cut."""
    if len(stretches) == 0:
        return (loop,)
    # Stretch k leads to box k: a cut there leaves box k behind it.
    return (loop[:stretches[0]], loop[stretches[-1]:])


def end_parts(town, cuts, joined):
    """For each loop a tuple of the parts of wire that its near and its far end are of."""
    if joined:
        whole = wire_parts(town, cuts, True)[0]
        return tuple((whole, whole) for loop in town[0])
    parts = [loop_parts(loop, stretches) for loop, stretches in zip(town[0], cuts)]
    return tuple((ends[0], ends[-1]) for ends in parts)


def dumb_numbers(town, cuts):
    """The numbers of the dumb boxes, a tuple, loop by loop in the order of the wire."""
    return tuple(number for loop, stretches in zip(town[0], cuts) for number in loop_dumb(loop, stretches))


def loop_dumb(loop, stretches):
    """The boxes of a loop between its first and its last cut stretch."""
    if len(stretches) == 0:
        return ()
    return loop[stretches[0]:stretches[-1]]
