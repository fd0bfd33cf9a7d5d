"""Tracks as texts, and texts as tracks."""

from ringlessday.errors import DayError, InvalidText, Missing
from ringlessday.sections import Crossing, Plain, Point
from ringlessday.track import Track
from ringlessday.words import end_word, number_word, rows_of, word_of_end

# Lines stand in the order of these ranks.
RANKS = {"plain": 1, "point": 1, "crossing": 1, "joint": 2, "border": 3, "signal": 3}


def track_text(track):
    rows = [section.text() for section in track.sections()]
    for one, other in track.joints():
        rows.append(f"joint {word_of_end(one)} {word_of_end(other)}")
    for kind, name, end in track.marks():
        rows.append(f"{kind} {name} {word_of_end(end)}")
    return "".join([f"{row}\n" for row in rows])


def read_track(text):
    reader = TrackReader()
    for at, row in enumerate(rows_of(text)):
        if row is None or not reader.take(row):
            raise InvalidText(at + 1)
    return reader.ground


class TrackReader:
    """A track, its ground, that grows line by line."""

    def __init__(self):
        self.ground = Track()
        self.rank = 1
        # The joint of the line ahead; the empty tuple is less than each joint.
        self.joint = ()

    def take(self, line):
        """Whether a line is right at its place; only a right one has any effect on the track."""
        words = line.split(" ")
        rank = RANKS.get(words[0], 0)
        if len(words) != 3 or rank < self.rank:
            return False
        self.rank = rank
        try:
            if rank == 1:
                return self._take_section(words[0], words[1], words[2])
            if rank == 2:
                return self._take_joint(words[1], words[2])
            return self._take_mark(words[0], words[1], words[2])
        except (DayError, Missing):
            return False

    def _take_section(self, kind, name, word):
        length = number_word(word)
        if kind == "plain":
            self.ground.put(Plain(name, length))
        elif kind == "point":
            self.ground.put(Point(name, length))
        else:
            self.ground.put(Crossing(name, length))
        return True

    def _take_joint(self, first, second):
        one = end_word(first)
        other = end_word(second)
        if one is None or other is None or one >= other or (one, other) <= self.joint:
            return False
        self.ground.tie(one, other)
        self.joint = (one, other)
        return True

    def _take_mark(self, kind, name, word):
        end = end_word(word)
        if kind == "border":
            self.ground.border(name, end)
        else:
            self.ground.signal(name, end)
        return True
