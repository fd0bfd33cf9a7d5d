"""Ways of trains over a track, from mark to mark, and ways outward from a branch of a point."""

from ringlessday.sections import Crossing, Point


def begin(track, mark):
    """The end by which a train that starts at a mark enters its first section."""
    kind, name, end = track.mark(mark)
    return end if kind == "border" else track.beyond(end)


def outward(track, end):
    """The end by which the first point outward from an end is entered, or None."""
    here = track.beyond(end)
    while here is not None:
        section = track.section(here[0])
        if isinstance(section, Point):
            return here
        if isinstance(section, Crossing):
            return None
        there = (section.name, section.ways(here[1])[0][0])
        # A ring of plain sections alone leads back to where it began.
        if there == end:
            return None
        here = track.beyond(there)
    return None


def walks(track, mark):
    """The routes that start at a mark, as lists of tuples (section, side of entry, side of exit), ascending."""
    found = walks_onward(track, begin(track, mark), [])
    for walk in found:
        yield walk


def walks_onward(track, end, behind):
    """The list of the walks that enter a section by an end, with the tuples of a walk that leads there ahead."""
    name, side = end
    known = [row[0] for row in behind] + [name]
    found = []
    # The ways ascend, and no walk is the beginning of another one, so the walks ascend, too.
    for way in track.section(name).ways(side):
        leaving = (name, way[0])
        walk = behind + [(name, side, way[0])]
        beyond = track.beyond(leaving)
        if track.mark_at(leaving) is not None:
            found.append(walk)
        elif beyond is not None and beyond[0] not in known:
            found.extend(walks_onward(track, beyond, walk))
    return found
