"""When the tail of a train clears what its entries have locked."""


def distances(layout, train):
    """For each step the list of the distances of its sections on the path of the train."""
    total = 0
    found = []
    for step in train.steps():
        row = []
        for length in layout.route_of(step.route).lengths():
            total = total + length
            row.append(total)
        found.append(row)
    return found


def clear_within(layout, train, step, element):
    """The pair (step, time) at which the train itself clears an element, None if it stays on it."""
    route = layout.route_of(train[step].route)
    # A flank is cleared with the last point that asks for it, a held section as itself.
    askers = route.askers(element)
    at = route.names().index(askers[-1] if askers else element)
    return head_at(layout, train, distances(layout, train)[step][at] + train.length)


def clear_of_stand(layout, train):
    """The pair (step, time) at which the train clears a section that ends where its path begins."""
    return head_at(layout, train, train.length)


def head_at(layout, train, distance):
    """The pair (step, time) at which the head first comes at least so far, None if the train stays ahead of that."""
    for at, row in enumerate(distances(layout, train)):
        for far, time in zip(row, train[at].times()):
            if far >= distance:
                return (at, time)
    last = len(train) - 1
    step = train[last]
    return (last, step.arrival + train.out) if layout.route_of(step.route).leaves else None
