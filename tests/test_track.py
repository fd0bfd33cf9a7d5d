import unittest

from helpers import ANYTHING, Case
from ringlessday.errors import (DuplicateName, InUse, InvalidName, InvalidSection, LooseEnd, TakenEnd, TooMany,
                                UnknownEnd, UnknownName)
from ringlessday.names import is_name
from ringlessday.sections import Crossing, Plain, Point, Section
from ringlessday.track import Track

NAMES = [first + second for first in "abcdef" for second in "ghijk"]
NO_NAMES = [value for value in ANYTHING if not is_name(value)]


def small():
    """x.b and p.stem have a joint with a signal at x.b; there is a border at x.a; the rest is loose."""
    track = Track()
    track.put(Plain("x", 20))
    track.put(Point("p", 5))
    track.put(Crossing("q", 8))
    track.tie(("x", "b"), ("p", "stem"))
    track.border("west", ("x", "a"))
    track.signal("s", ("x", "b"))
    return track


def state(track):
    joints = [(end, track.beyond(end)) for section in track.sections() for end in section.ends()]
    marks = [(end, track.mark_at(end)) for section in track.sections() for end in section.ends()]
    return repr([track.sections(), track.marks(), track.joints(), joints, marks, len(track)])


class TrackCase(Case):
    def keeps(self, track, error, call, *args, **more):
        """A call is refused and changes nothing."""
        before = state(track)
        self.refused(error, call, *args, **more)
        self.assertEqual(state(track), before)


class PutTest(TrackCase):
    def test_sections_in_their_order(self):
        track = small()
        self.assertEqual(track.sections(), [Plain("x", 20), Point("p", 5), Crossing("q", 8)])
        self.assertIsNone(track.put(section=Plain("a", 1)))
        self.assertEqual([section.name for section in track.sections()], ["x", "p", "q", "a"])

    def test_invalid_section(self):
        track = small()
        section = Section("z", 5)
        self.keeps(track, InvalidSection(section), track.put, section)
        for value in ANYTHING:
            self.keeps(track, InvalidSection(value), track.put, value)

    def test_invalid_section_ahead_of_duplicate_name(self):
        track = small()
        section = Section("x", 5)
        self.keeps(track, InvalidSection(section), track.put, section)

    def test_duplicate_names_of_sections_and_marks(self):
        track = small()
        for name in ("x", "p", "q", "west", "s"):
            for kind in (Plain, Point, Crossing):
                self.keeps(track, DuplicateName(name), track.put, kind(name, 1))

    def test_at_most_24_sections(self):
        track = Track()
        for name in NAMES[:24]:
            track.put(Plain(name, 1))
        self.assertEqual(len(track), 24)
        self.keeps(track, TooMany("sections", 24), track.put, Crossing(NAMES[24], 1))
        self.keeps(track, DuplicateName(NAMES[0]), track.put, Plain(NAMES[0], 1))

    def test_at_most_8_points(self):
        track = Track()
        for name in NAMES[:8]:
            track.put(Point(name, 1))
        self.keeps(track, TooMany("points", 8), track.put, Point("x", 1))
        self.keeps(track, DuplicateName(NAMES[7]), track.put, Point(NAMES[7], 1))
        track.put(Plain("x", 1))
        track.put(Crossing("y", 1))
        self.assertEqual(len(track), 10)

    def test_too_many_sections_ahead_of_too_many_points(self):
        track = Track()
        for name in NAMES[:8]:
            track.put(Point(name, 1))
        for name in NAMES[8:24]:
            track.put(Plain(name, 1))
        self.keeps(track, TooMany("sections", 24), track.put, Point("x", 1))

    def test_a_dropped_section_makes_room(self):
        track = Track()
        for name in NAMES[:8]:
            track.put(Point(name, 1))
        track.drop(NAMES[3])
        track.put(Point("x", 1))
        self.assertEqual([section.name for section in track.sections()], [*NAMES[:3], *NAMES[4:8], "x"])

    def test_class_values(self):
        self.same([Track.SECTIONS, Track.POINTS, Track.MARKS], [24, 8, 12])


class TieTest(TrackCase):
    def test_joints(self):
        track = small()
        self.assertIsNone(track.tie(one=("q", "a"), other=("p", "left")))
        self.assertEqual(track.joints(), [(("p", "left"), ("q", "a")), (("p", "stem"), ("x", "b"))])
        self.assertEqual([track.beyond(("q", "a")), track.beyond(("p", "left"))], [("p", "left"), ("q", "a")])

    def test_joint_of_two_ends_of_one_section(self):
        track = small()
        track.tie(("q", "c"), ("q", "a"))
        self.assertEqual(track.joints()[1:], [(("q", "a"), ("q", "c"))])

    def test_unknown_ends(self):
        track = small()
        for end in (("y", "a"), ("x", "c"), ("p", "a"), ("q", "stem"), ("west", "a"), ["q", "a"], ("q",), ("q", 1)):
            self.keeps(track, UnknownEnd(end), track.tie, end, ("q", "a"))
            self.keeps(track, UnknownEnd(end), track.tie, ("q", "a"), end)
            self.keeps(track, UnknownEnd(end), track.tie, ("x", "a"), end)
            self.keeps(track, UnknownEnd(end), track.tie, end, "no end either")

    def test_any_values_as_ends(self):
        track = small()
        for value in ANYTHING:
            if value == ("x", "a"):
                continue
            self.keeps(track, UnknownEnd(value), track.tie, value, ("q", "a"))
            self.keeps(track, UnknownEnd(value), track.tie, ("q", "a"), value)

    def test_taken_ends(self):
        track = small()
        for end in (("x", "a"), ("x", "b"), ("p", "stem")):
            self.keeps(track, TakenEnd(end), track.tie, end, ("q", "a"))
            self.keeps(track, TakenEnd(end), track.tie, ("q", "a"), end)
            self.keeps(track, TakenEnd(end), track.tie, end, end)
        self.keeps(track, TakenEnd(("x", "b")), track.tie, ("x", "b"), ("x", "a"))

    def test_equal_ends(self):
        track = small()
        self.keeps(track, TakenEnd(("q", "a")), track.tie, ("q", "a"), ("q", "a"))


class BorderTest(TrackCase):
    def test_border(self):
        track = small()
        self.assertIsNone(track.border(name="east", end=("p", "left")))
        self.assertEqual(track.marks()[2:], [("border", "east", ("p", "left"))])

    def test_errors_in_their_order(self):
        track = small()
        for name in NO_NAMES:
            self.keeps(track, InvalidName(name), track.border, name, None)
        for name in ("x", "west", "s"):
            self.keeps(track, DuplicateName(name), track.border, name, None)
        for end in [value for value in ANYTHING if value != ("x", "a")] + [("y", "a"), ("q", "left")]:
            self.keeps(track, UnknownEnd(end), track.border, "east", end)
        for end in (("x", "a"), ("x", "b"), ("p", "stem")):
            self.keeps(track, TakenEnd(end), track.border, "east", end)

    def test_at_most_12_marks(self):
        track = full_of_marks()
        self.keeps(track, TooMany("marks", 12), track.border, "east", None)
        self.keeps(track, TooMany("marks", 12), track.border, "east", ("a", "b"))
        self.keeps(track, DuplicateName("a"), track.border, "a", None)
        track.drop("mb")
        track.border("east", ("b", "a"))
        self.assertEqual(len(track.marks()), 12)


class SignalTest(TrackCase):
    def test_signals_at_both_ends_of_a_joint(self):
        track = small()
        self.assertIsNone(track.signal(name="t", end=("p", "stem")))
        self.assertEqual(track.marks()[1:], [("signal", "s", ("x", "b")), ("signal", "t", ("p", "stem"))])

    def test_errors_in_their_order(self):
        track = small()
        for name in NO_NAMES:
            self.keeps(track, InvalidName(name), track.signal, name, None)
        for name in ("x", "west", "s"):
            self.keeps(track, DuplicateName(name), track.signal, name, None)
        for end in [value for value in ANYTHING if value != ("x", "a")] + [("y", "a"), ("q", "left")]:
            self.keeps(track, UnknownEnd(end), track.signal, "t", end)
        self.keeps(track, LooseEnd(("q", "a")), track.signal, "t", ("q", "a"))
        self.keeps(track, LooseEnd(("x", "a")), track.signal, "t", ("x", "a"))
        self.keeps(track, TakenEnd(("x", "b")), track.signal, "t", ("x", "b"))

    def test_at_most_12_marks(self):
        track = full_of_marks()
        self.keeps(track, TooMany("marks", 12), track.signal, "t", None)
        self.keeps(track, DuplicateName("ma"), track.signal, "ma", None)
        self.keeps(track, InvalidName("T"), track.signal, "T", None)


def full_of_marks():
    track = Track()
    for name in "abcdefghijkl":
        track.put(Plain(name, 1))
        track.border("m" + name, (name, "a"))
    return track


class UntieTest(TrackCase):
    def test_untie_from_either_end(self):
        for end in (("x", "b"), ("p", "stem")):
            track = small()
            track.drop("s")
            self.assertIsNone(track.untie(end=end))
            self.assertEqual(track.joints(), [])
            self.assertEqual([track.beyond(("x", "b")), track.beyond(("p", "stem"))], [None, None])
            track.border("east", ("x", "b"))

    def test_errors(self):
        track = small()
        for end in [value for value in ANYTHING if value != ("x", "a")] + [("y", "a"), ("q", "left")]:
            self.keeps(track, UnknownEnd(end), track.untie, end)
        for end in (("x", "a"), ("q", "a")):
            self.keeps(track, LooseEnd(end), track.untie, end)

    def test_a_joint_with_signals(self):
        track = small()
        self.keeps(track, InUse("s"), track.untie, ("x", "b"))
        self.keeps(track, InUse("s"), track.untie, ("p", "stem"))
        track.signal("t", ("p", "stem"))
        self.keeps(track, InUse("s"), track.untie, ("x", "b"))
        self.keeps(track, InUse("t"), track.untie, ("p", "stem"))


class DropTest(TrackCase):
    def test_drop_marks_and_sections(self):
        track = small()
        for name in ("q", "west", "s"):
            self.assertIsNone(track.drop(name=name))
        self.assertEqual([len(track), track.marks()], [2, []])
        self.assertEqual([track.mark_at(("x", "a")), track.mark_at(("x", "b"))], [None, None])
        track.untie(("x", "b"))
        track.drop("x")
        self.assertEqual(track.sections(), [Point("p", 5)])
        self.refused(UnknownEnd(("x", "a")), track.beyond, ("x", "a"))
        self.refused(UnknownEnd(("x", "a")), track.mark_at, ("x", "a"))

    def test_what_is_dropped_can_be_put_in_again_at_the_end(self):
        track = small()
        track.drop("q")
        track.put(Plain("q", 3))
        track.drop("west")
        track.border("west", ("x", "a"))
        self.assertEqual(track.sections()[2], Plain("q", 3))
        self.assertEqual([mark[1] for mark in track.marks()], ["s", "west"])

    def test_unknown_names(self):
        track = small()
        for name in [value for value in ANYTHING if value != "x"] + ["y", "west.s.1"]:
            self.keeps(track, UnknownName(name), track.drop, name)

    def test_sections_in_use(self):
        track = small()
        self.keeps(track, InUse("x"), track.drop, "x")
        self.keeps(track, InUse("p"), track.drop, "p")
        track.border("east", ("q", "d"))
        self.keeps(track, InUse("q"), track.drop, "q")


class QuestionsTest(TrackCase):
    def test_section(self):
        track = small()
        self.assertEqual([track.section("x"), track.section(name="p")], [Plain("x", 20), Point("p", 5)])
        for name in [value for value in ANYTHING if value != "x"] + ["y", "west", "s"]:
            self.keeps(track, UnknownName(name), track.section, name)

    def test_marks(self):
        track = small()
        self.same(track.marks(), [("border", "west", ("x", "a")), ("signal", "s", ("x", "b"))])
        self.same(track.mark("s"), ("signal", "s", ("x", "b")))
        self.same(track.mark(name="west"), ("border", "west", ("x", "a")))
        for name in ANYTHING + ["y", "p"]:
            self.keeps(track, UnknownName(name), track.mark, name)

    def test_beyond_and_mark_at(self):
        track = small()
        self.assertEqual([track.beyond(("x", "b")), track.beyond(end=("p", "stem"))], [("p", "stem"), ("x", "b")])
        self.assertEqual([track.beyond(("x", "a")), track.beyond(("q", "d"))], [None, None])
        self.assertEqual([track.mark_at(("x", "a")), track.mark_at(end=("x", "b"))], ["west", "s"])
        self.assertEqual([track.mark_at(("p", "stem")), track.mark_at(("q", "a"))], [None, None])
        for end in [value for value in ANYTHING if value != ("x", "a")] + [("y", "a"), ("p", "b")]:
            self.keeps(track, UnknownEnd(end), track.beyond, end)
            self.keeps(track, UnknownEnd(end), track.mark_at, end)

    def test_contains(self):
        track = small()
        for value in ANYTHING + ["y", "west", "s"]:
            self.assertEqual(value in track, value == "x")
        self.assertIs("p" in track, True)

    def test_length_and_truth(self):
        self.assertEqual([len(Track()), len(small())], [0, 3])
        self.assertIs(bool(Track()), True)
        self.assertIs(bool(small()), True)

    def test_repr(self):
        track = Track()
        self.assertEqual(repr(track), "Track(0 sections, 0 marks)")
        track.put(Plain("x", 1))
        track.border("west", ("x", "a"))
        self.assertEqual(repr(track), "Track(1 sections, 1 marks)")
        self.assertEqual(repr(small()), "Track(3 sections, 2 marks)")

    def test_lists_are_new(self):
        track = small()
        for call in (track.sections, track.marks, track.joints):
            self.is_new_list(call)


class TwinAndEqualTest(TrackCase):
    def test_twin(self):
        track = small()
        twin = track.twin()
        self.assertEqual(twin, track)
        self.assertEqual(state(twin), state(track))

    def test_a_twin_is_independent(self):
        track = small()
        before = state(track)
        twin = track.twin()
        twin.drop("s")
        twin.untie(("x", "b"))
        twin.drop("q")
        twin.put(Plain("y", 1))
        twin.border("east", ("y", "a"))
        self.assertEqual(state(track), before)
        other = track.twin()
        after = state(other)
        track.drop("west")
        track.tie(("x", "a"), ("q", "a"))
        track.signal("t", ("q", "a"))
        track.put(Plain("z", 1))
        self.assertEqual(state(other), after)

    def test_equal(self):
        self.assertTrue(Track() == Track())
        self.assertTrue(small() == small())
        self.assertFalse(small() != small())

    def test_equal_joints_in_another_order(self):
        one = small()
        other = small()
        one.tie(("q", "a"), ("q", "c"))
        one.tie(("p", "left"), ("p", "right"))
        other.tie(("p", "right"), ("p", "left"))
        self.assertFalse(one == other)
        other.tie(("q", "a"), ("q", "c"))
        self.assertTrue(one == other)

    def test_unequal_in_sections_marks_or_joints(self):
        for change in (lambda track: track.put(Plain("y", 1)), lambda track: track.drop("q"),
                       lambda track: track.drop("west"), lambda track: track.border("east", ("q", "a")),
                       lambda track: track.tie(("q", "a"), ("q", "b"))):
            other = small()
            change(other)
            self.assertFalse(small() == other)
            self.assertTrue(small() != other)

    def test_unequal_in_the_order_of_sections(self):
        other = small()
        other.drop("q")
        other.put(Plain("y", 1))
        other.put(Crossing("q", 8))
        one = small()
        one.put(Plain("y", 1))
        self.assertFalse(one == other)

    def test_unequal_in_the_order_of_marks(self):
        other = small()
        other.drop("west")
        other.border("west", ("x", "a"))
        self.assertFalse(small() == other)

    def test_unequal_in_a_length(self):
        one, other = Track(), Track()
        one.put(Plain("x", 1))
        other.put(Plain("x", 2))
        self.assertFalse(one == other)

    def test_a_track_equals_nothing_else(self):
        for value in ANYTHING:
            self.assertFalse(Track() == value)
            self.assertTrue(small() != value)


if __name__ == "__main__":
    unittest.main()
