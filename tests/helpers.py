"""What several test files use: values of every kind, and a test case that looks at errors closely."""

import unittest

from ringlessday.errors import DayError
from ringlessday.sections import Crossing, Plain, Point
from ringlessday.track import Track
from ringlessday.tracktext import read_track

# Values of every kind that the document allows where it says "any value".
ANYTHING = [
    None, True, False, 0, 1, -1, 7, 51, 10 ** 9, -10 ** 9, 10 ** 40, "", "a", "x", "stem", "Ab", "abcdefg", "a b", "x.a",
    "plain", (), [], ("x",), ["x"], ("x", "a"), ["x", "a"], ("x", "a", "b"), ("x", None), (None, "a"), ("x", True),
    ("x", 0), ["x", 0], ("x", ["a"]), (["x"], "a"), (("x", "a"), ("y", "b")), [("x", "a")], [[[["x"]]]],
    ((((1,),),),), [None, True, 1, "x"],
]

# The single line with a passing place of the worked example.
PASSING_PLACE = (
    "plain w 20\npoint p 5\nplain u 30\nplain l 30\npoint q 5\nplain e 20\nplain f 20\n"
    "joint e.a q.stem\njoint e.b f.a\njoint l.a p.right\njoint l.b q.right\njoint p.left u.a\njoint p.stem w.b\n"
    "joint q.left u.b\n"
    "border west w.a\nborder east f.b\nsignal su u.b\nsignal sl l.b\nsignal tu u.a\nsignal tl l.a\nsignal m e.b\n"
    "signal n f.a\n"
)


def track_of(text):
    """The track of a text whose lines are separated by semicolons."""
    return read_track("".join(line.strip() + "\n" for line in text.split(";") if line.strip()))


def some_track(chance, most=20):
    """A track that is made by deeds at random, some of them refused."""
    track = Track()
    kinds = [Plain, Plain, Point, Crossing]
    for name in chance.sample([*"abcdefghijklmnopqrstuvwxyz", "lamp", "stem", "abcdef"], chance.randrange(most)):
        try:
            track.put(chance.choice(kinds)(name, chance.randrange(1, 51)))
        except DayError:
            pass
    ends = [end for section in track.sections() for end in section.ends()]
    for _ in range(2 * len(ends)):
        try:
            track.tie(chance.choice(ends), chance.choice(ends))
        except DayError:
            pass
    for _ in range(len(ends)):
        try:
            track.signal(f"s{chance.choice('abcdefgh')}", chance.choice(ends))
        except DayError:
            pass
        try:
            track.border(f"b{chance.choice('abcdefgh')}", chance.choice(ends))
        except DayError:
            pass
    return track


class Case(unittest.TestCase):
    def refused(self, error, call, *args, **more):
        """The call raises an error of exactly this class with exactly these attributes."""
        try:
            answer = call(*args, **more)
        except Exception as raised:
            self.assertIs(type(raised), type(error), f"{raised!r} instead of {error!r}")
            self.assertEqual(repr(vars(raised)), repr(vars(error)))
        else:
            self.fail(f"{answer!r} instead of {error!r}")

    def refused_first(self, error, generator):
        """A generator raises an error when its first item is requested, and not before."""
        self.refused(error, lambda: next(generator))

    def same(self, one, other):
        """Equal, and of the same kinds throughout, so that True is not 1 and a tuple is no list."""
        self.assertEqual(one, other)
        self.assertEqual(repr(one), repr(other))

    def is_new_list(self, call):
        """The list that a call returns can be changed without any effect on the next answer."""
        first = call()
        self.assertIs(type(first), list)
        kept = list(first)
        first.append("spoilt")
        self.same(call(), kept)
