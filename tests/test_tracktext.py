import random
import unittest

from helpers import ANYTHING, PASSING_PLACE, Case, some_track
from ringlessday.errors import InvalidText
from ringlessday.sections import Crossing, Plain, Point
from ringlessday.track import Track
from ringlessday.tracktext import read_track, track_text

TEXT = ("plain x 20\npoint p 5\ncrossing q 8\njoint p.left x.a\njoint p.stem q.d\nborder west x.b\nsignal s x.a\n"
        "border east q.a\n")


class ThereAndBackTest(Case):
    def test_text_of_a_track(self):
        track = Track()
        track.put(Plain("x", 20))
        track.put(Point("p", 5))
        track.put(Crossing("q", 8))
        track.tie(("q", "d"), ("p", "stem"))
        track.tie(("x", "a"), ("p", "left"))
        track.border("west", ("x", "b"))
        track.signal("s", ("x", "a"))
        track.border("east", ("q", "a"))
        self.assertEqual(track_text(track), TEXT)
        self.assertEqual(track_text(track=track), TEXT)
        self.assertEqual(read_track(TEXT), track)
        self.assertEqual(read_track(text=TEXT), track)

    def test_the_empty_string(self):
        self.assertEqual(track_text(Track()), "")
        self.assertEqual(read_track(""), Track())

    def test_the_passing_place(self):
        self.assertEqual(track_text(read_track(PASSING_PLACE)), PASSING_PLACE)

    def test_some_kinds_of_lines_may_be_missing(self):
        for text in ("plain x 1\n", "plain x 50\njoint x.a x.b\n", "plain x 1\nborder west x.a\n"):
            self.assertEqual(track_text(read_track(text)), text)

    def test_tracks_at_random(self):
        chance = random.Random(5)
        for _ in range(200):
            track = some_track(chance)
            text = track_text(track)
            self.assertEqual(read_track(text), track)
            self.assertEqual(track_text(read_track(text)), text)

    def test_joints_ascend(self):
        text = "plain a 1\nplain aa 1\npoint b 1\njoint a.a b.left\njoint a.b aa.a\njoint aa.b b.stem\n"
        self.assertEqual(track_text(read_track(text)), text)


class WrongLinesTest(Case):
    def wrong(self, text, line):
        self.refused(InvalidText(line), read_track, text)

    def test_no_strings(self):
        for value in ANYTHING:
            if not isinstance(value, str):
                self.wrong(value, 0)

    def test_a_last_line_without_a_line_feed(self):
        self.wrong("plain x 20", 1)
        self.wrong(TEXT[:-1], 8)
        self.wrong(TEXT + "border north q.b", 9)
        self.wrong(TEXT + " ", 9)
        self.wrong("x", 1)

    def test_a_wrong_line_ahead_of_a_last_line_without_a_line_feed(self):
        self.wrong("plain x 20\nplain x 20\nplain y 20", 2)

    def test_empty_lines(self):
        self.wrong("\n", 1)
        self.wrong("\nplain x 20\n", 1)
        self.wrong("plain x 20\n\n", 2)
        self.wrong("plain x 20\n\nplain y 20\n", 2)

    def test_forms_of_sections(self):
        for line in ("plain", "plain x", "plain x 20 1", "plain  x 20", " plain x 20", "plain x 20 ", "plain x  20",
                     "Plain x 20", "none x 20", "section x 20", "plain X 20", "plain x1 20", "plain abcdefg 20",
                     "plain  20", "plain 20 x", "point p", "point p 5 left", "crossing q", "plainx 20", "plain x20"):
            self.wrong(line + "\n", 1)
            self.wrong("plain y 1\n" + line + "\nplain z 1\n", 2)

    def test_numbers(self):
        for word in ("0", "00", "01", "020", "51", "-5", "+5", "5.0", "5.", "1e1", "0x5", "1_0", "a", "", "9" * 30,
                     "9" * 5000, "0" * 5000 + "5"):
            for kind in ("plain", "point", "crossing"):
                self.wrong(f"{kind} x {word}\n", 1)
        for word in ("1", "9", "10", "50"):
            self.assertEqual(read_track(f"plain x {word}\n").section("x").length, int(word))

    def test_refused_sections(self):
        self.wrong("plain x 20\npoint x 20\n", 2)
        lines = [f"plain {name} 1\n" for name in "abcdefghijklmnopqrstuvwx"]
        self.assertEqual(len(read_track("".join(lines))), 24)
        self.wrong("".join(lines) + "plain y 1\n", 25)
        points = "".join([f"point {name} 1\n" for name in "abcdefgh"])
        self.assertEqual(len(read_track(points)), 8)
        self.wrong(points + "plain i 1\npoint j 1\n", 10)

    def test_forms_of_joints(self):
        ground = "plain x 20\nplain y 20\npoint p 5\n"
        self.assertEqual(len(read_track(ground + "joint x.b y.a\n").joints()), 1)
        for line in ("joint", "joint x.b", "joint x.b y.a p.stem", "joint x.b  y.a", "joint x.b y.a ", "joint x b y a",
                     "joint x.by.a", "joint x.b. y.a", "joint .b y.a", "joint x. y.a", "joint x y", "joint xb ya",
                     "joint X.b y.a", "joint x.B y.a", "joint x.b y", "joint x.b y.", "joint x.b y.A", "joint x.b Y.a",
                     "joint x.b y.a.a", "joint x.b .a", "joint x.b.c y.a", "joint x,b y,a", "joints x.b y.a",
                     "Joint x.b y.a"):
            self.wrong(ground + line + "\n", 4)

    def test_refused_joints(self):
        ground = "plain x 20\nplain y 20\npoint p 5\n"
        for line in ("joint x.b z.a", "joint w.a x.b", "joint x.b x.stem", "joint x.c y.a", "joint p.a x.a"):
            self.wrong(ground + line + "\n", 4)
        self.wrong(ground + "joint p.left x.a\njoint p.stem x.a\n", 5)
        self.wrong(ground + "joint p.left x.a\njoint x.a y.a\n", 5)

    def test_the_lesser_end_first(self):
        ground = "plain x 20\nplain y 20\n"
        self.wrong(ground + "joint y.a x.b\n", 3)
        self.wrong(ground + "joint x.b x.a\n", 3)
        self.wrong(ground + "joint x.a x.a\n", 3)

    def test_joints_that_do_not_ascend(self):
        ground = "plain x 20\nplain y 20\nplain z 20\npoint p 5\n"
        self.wrong(ground + "joint x.b y.a\njoint p.left x.a\n", 6)
        self.wrong(ground + "joint x.b y.a\njoint x.a z.a\n", 6)
        self.wrong(ground + "joint x.b y.a\njoint x.b y.a\n", 6)
        self.wrong(ground + "joint p.left y.a\njoint p.left x.a\n", 6)

    def test_forms_of_marks(self):
        ground = "plain x 20\nplain y 20\njoint x.b y.a\n"
        for line in ("border", "border west", "border west x.a x.b", "border  west x.a", "border west  x.a",
                     "border west x.a ", "border West x.a", "border w1 x.a", "border abcdefg x.a", "border west x",
                     "border west x.a.b", "border west x.A", "border  x.a", "borders west x.a", "mark west x.a"):
            self.wrong(ground + line + "\n", 4)
            self.wrong(ground + line.replace("border", "signal").replace("x.a", "x.b") + "\n", 4)

    def test_refused_marks(self):
        ground = "plain x 20\nplain y 20\njoint x.b y.a\nborder west x.a\nsignal s x.b\n"
        for line in ("border s y.b", "border x y.b", "border west y.b", "border east x.a", "border east x.b",
                     "border east y.a", "border east z.a", "border east y.left", "signal west y.a", "signal x y.a",
                     "signal t x.b", "signal t x.a", "signal t y.b", "signal t z.a", "signal t y.stem"):
            self.wrong(ground + line + "\n", 6)
        self.assertEqual(len(read_track(ground + "signal t y.a\nborder east y.b\n").marks()), 4)

    def test_at_most_12_marks(self):
        ground = "".join([f"plain {name} 1\n" for name in "abcdefghijklm"])
        marks = [f"border m{name} {name}.a\n" for name in "abcdefghijklm"]
        self.assertEqual(len(read_track(ground + "".join(marks[:12])).marks()), 12)
        self.wrong(ground + "".join(marks), 26)

    def test_lines_behind_those_of_a_later_kind(self):
        self.wrong("plain x 20\njoint x.a x.b\nplain y 20\n", 3)
        self.wrong("plain x 20\nborder west x.a\nplain y 20\n", 3)
        self.wrong("plain x 20\nplain y 20\nborder west x.a\njoint x.b y.a\n", 4)
        self.wrong("plain x 20\nplain y 20\njoint x.b y.a\nsignal s x.b\npoint z 5\n", 5)
        self.wrong("border west x.a\nplain x 20\n", 1)

    def test_borders_and_signals_may_stand_in_any_order(self):
        ground = "plain x 20\nplain y 20\njoint x.b y.a\n"
        for marks in ("border west x.a\nsignal s x.b\n", "signal s x.b\nborder west x.a\n"):
            self.assertEqual(track_text(read_track(ground + marks)), ground + marks)

    def test_the_first_wrong_line_counts(self):
        self.wrong("plain x 20\nplain y 0\nplain x 20\nnothing\n", 2)

    def test_other_characters(self):
        for line in ("plain x \u0665", "plain \u00e9 5", "plain x 5\r", "plain\tx 5", "plain x \u00b2"):
            self.wrong(line + "\n", 1)


if __name__ == "__main__":
    unittest.main()
