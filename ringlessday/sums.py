"""Greatest sums along limits, and rings of limits with a sum above 0."""


def spread(rows, many):
    """The greatest sums from the moment 0 on, the limit that gave each, and what the last of so many rounds raised."""
    far = {None: 0}
    ahead = {}
    raised = []
    for _ in range(many):
        raised = []
        for row in rows:
            if row[0] in far and (row[1] not in far or far[row[0]] + row[2] > far[row[1]]):
                far[row[1]] = far[row[0]] + row[2]
                ahead[row[1]] = row
                raised.append(row[1])
        if raised == []:
            break
    return far, ahead, raised


def ring_back(ahead, raised, many):
    """The ring on which one comes back from what the last of many rounds has raised."""
    here = raised
    for _ in range(many):
        here = ahead[here][0]
    found = [ahead[here]]
    while found[-1][0] != here:
        found.append(ahead[found[-1][0]])
    return found[::-1]
