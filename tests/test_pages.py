import random
import re
import unittest

from chances import LINE, PLACE, some_plan
from helpers import ANYTHING, PASSING_PLACE, Case, track_of
from ringlessday.errors import DayError, InvalidText, Missing
from ringlessday.layouts import Layout
from ringlessday.led import LedDay
from ringlessday.pages import board, plan_page, read_plan
from ringlessday.plans import Plan
from ringlessday.tracktext import read_track, track_text
from ringlessday.trains import Step, Train
from test_led import SHUTTLE
from test_machine import A, B

NUMBER = "(0|[1-9][0-9]*)"
NAME = "([a-z]{1,6})"
STEP = "step west.su.1 stop 0 public - times 4 5 11"
PAGE = PASSING_PLACE + f"train a 15 out 3\n{STEP}\nstep su.m.1 stop 2 public 30 times 1 5\n" \
    "step m.east.1 stop 0 public - times 4\ntrain b 15 out 3\nstep east.n.1 stop 0 public - times 4\n" \
    "wait b 0 a 1 7\n"
TURNS = track_text(LINE.track()) + "train a 25 out 1\nstep west.ey.1 stop 0 public - times 4 9\n" \
    "train b 25 out 2\nstep wy.west.1 stop 0 public - times 5\ntrain c 9 out 1\n" \
    "step west.ey.1 stop 0 public 0 times 1000 1000000\nturn b a 5\nwait c 0 b 0 0\nwait c 0 a 0 1000000\n"


def lines_of(text):
    return text.split("\n")[:-1]


def page_of(lines):
    return "".join(line + "\n" for line in lines)


def is_refused(call, *args, **more):
    try:
        call(*args, **more)
    except (DayError, Missing):
        return True
    return False


class PlainPage:
    """Finds the first wrong line of a page by what the document says of each kind of line."""

    def __init__(self, text):
        self.lines = lines_of(text)
        self.unended = text.split("\n")[-1] != ""
        self.track = [line for line in self.lines if not re.match("(train|step|turn|wait)( |$)", line)]
        self.trains, self.turns, self.waits = [], [], []

    def wrong_line(self):
        """The number of the wrong line, None if there is none."""
        for at, line in enumerate(self.lines):
            if not self.is_right(at, line):
                return at + 1
        if self.unended or (self.trains and not self.trains[-1][3]) or is_refused(self.plan):
            return len(self.lines) + 1
        return None

    def plan(self):
        layout = Layout(read_track(page_of(self.track)))
        trains = [Train(name, length, *steps, out=out) for name, length, out, steps in self.trains]
        return Plan(layout, *trains, turns=self.turns, waits=self.waits)

    def is_right(self, at, line):
        word = line.split(" ")[0]
        if word not in ("train", "step", "turn", "wait"):
            behind = any(re.match("(train|step|turn|wait)( |$)", other) for other in self.lines[:at])
            return not behind and not is_refused(read_track, page_of(self.lines[:at + 1]))
        if word == "step":
            return not self.turns and not self.waits and self.take_step(line)
        if self.trains and not self.trains[-1][3]:
            return False
        if word == "train":
            return not self.turns and not self.waits and self.take_train(line)
        return self.take_turn(line) if word == "turn" else self.take_wait(line)

    def take_train(self, line):
        found = re.fullmatch(f"train {NAME} {NUMBER} out {NUMBER}", line)
        if not found or is_refused(Train, found[1], int(found[2]), Step("x", [1]), out=int(found[3])):
            return False
        self.trains.append((found[1], int(found[2]), int(found[3]), []))
        return True

    def take_step(self, line):
        found = re.fullmatch(f"step ([^ ]+) stop {NUMBER} public (-|{NUMBER}) times ({NUMBER}( {NUMBER})*)", line)
        if not found or not self.trains or len(self.trains[-1][3]) == 6:
            return False
        public = None if found[3] == "-" else int(found[3])
        values = found[1], [int(time) for time in found[5].split(" ")]
        if is_refused(Step, *values, stop=int(found[2]), public=public):
            return False
        self.trains[-1][3].append(Step(*values, stop=int(found[2]), public=public))
        return True

    def take_turn(self, line):
        found = re.fullmatch(f"turn {NAME} {NAME} {NUMBER}", line)
        if not found or self.waits:
            return False
        self.turns.append((found[1], found[2], int(found[3])))
        return True

    def take_wait(self, line):
        found = re.fullmatch(f"wait {NAME} {NUMBER} {NAME} {NUMBER} {NUMBER}", line)
        if not found:
            return False
        self.waits.append((found[1], int(found[2]), found[3], int(found[4]), int(found[5])))
        return True


class PageTest(Case):
    def test_the_lines(self):
        late = Train("a", 15, Step("west.su.1", [4, 5, 11]), Step("su.m.1", [1, 5], stop=2, public=30),
                     Step("m.east.1", [4]), out=3)
        plan = Plan(PLACE, late, Train("b", 15, Step("east.n.1", [4]), out=3), waits=[("b", 0, "a", 1, 7)])
        self.same(plan_page(plan), PAGE)
        self.same(plan_page(plan=Plan(PLACE)), PASSING_PLACE)
        self.same(plan_page(Plan(Layout(track_of("")))), "")

    def test_turns_and_waits(self):
        trains = [Train("a", 25, Step("west.ey.1", [4, 9])), Train("b", 25, Step("wy.west.1", [5]), out=2),
                  Train("c", 9, Step("west.ey.1", [1000, 10 ** 6], public=0))]
        plan = Plan(LINE, *trains, turns=[("b", "a", 5)], waits=[("c", 0, "b", 0, 0), ("c", 0, "a", 0, 10 ** 6)])
        self.same(plan_page(plan), TURNS)
        self.same(read_plan(TURNS) == plan, True)
        self.same(read_plan(text=plan_page(SHUTTLE)) == SHUTTLE, True)

    def test_there_and_back(self):
        told = {"turns": 0, "waits": 0, "public": 0}
        for seed in range(250):
            plan = some_plan(random.Random(seed), most_trains=5, most_steps=4)
            page = plan_page(plan)
            found = read_plan(page)
            self.same([found == plan, plan_page(found)], [True, page])
            self.same([found.turns(), found.waits(), found.trains()], [plan.turns(), plan.waits(), plan.trains()])
            told["turns"] += bool(plan.turns())
            told["waits"] += bool(plan.waits())
            told["public"] += " public 1" in page
        self.assertTrue(min(told.values()) > 20, told)

    def test_the_page_of_nothing(self):
        found = read_plan("")
        self.same([found.trains(), found.layout.element_names()], [[], []])


class WrongLinesTest(Case):
    def wrong(self, line, text):
        self.refused(InvalidText(line), read_plan, text)
        self.same(PlainPage(text).wrong_line(), line)

    def test_values_that_are_no_strings(self):
        for value in ANYTHING + [[PAGE], (PAGE,), lines_of(PAGE)]:
            if not isinstance(value, str):
                self.refused(InvalidText(0), read_plan, value)

    def test_each_line_bent(self):
        for page in (PAGE, TURNS):
            lines = lines_of(page)
            for at, line in enumerate(lines):
                for bent in ("", " ", line + " ", " " + line, line.replace(" ", "  ", 1), line.upper(), line + " x", line + " 0",
                             line.replace(" ", "\t", 1), line.split(" ")[0], line[1:], "#" + line, line + ".", line + "-1"):
                    self.wrong(at + 1, page_of(lines[:at] + [bent] + lines[at + 1:]))

    def test_needless_zeros_and_signs(self):
        for page in (PAGE, TURNS):
            lines = lines_of(page)
            for at, line in enumerate(lines):
                for found in re.finditer("(?<= )[0-9]+", line):
                    for word in ("0" + found[0], "+" + found[0], "-" + found[0], found[0] + ".", found[0] + "_0", "", "x"):
                        bent = line[:found.start()] + word + line[found.end():]
                        self.wrong(at + 1, page_of(lines[:at] + [bent] + lines[at + 1:]))

    def test_each_line_left_out_doubled_or_in_another_place(self):
        for page in (PAGE, TURNS):
            lines = lines_of(page)
            for at, line in enumerate(lines):
                texts = [lines[:at] + lines[at + 1:], lines[:at] + [line] + lines[at:]]
                texts += [lines[:at] + lines[at + 1:other] + [line] + lines[other:] for other in range(at + 1, len(lines))]
                for text in map(page_of, texts):
                    wrong = PlainPage(text).wrong_line()
                    if wrong is None:
                        self.same(plan_page(read_plan(text)), text)
                    else:
                        self.refused(InvalidText(wrong), read_plan, text)

    def test_lines_that_are_left_out(self):
        lines = lines_of(PAGE)
        train = lines.index("train a 15 out 3")
        # Without its section a joint is wrong, without the train its step, and without its first step the plan.
        for left_out, wrong in ((0, 12), (train, train + 1), (train + 1, len(lines)), (len(lines) - 2, len(lines) - 1)):
            self.wrong(wrong, page_of(lines[:left_out] + lines[left_out + 1:]))
        # A page ends behind each line at which nothing is missing.
        for many in range(train + 1):
            text = page_of(lines[:many])
            wrong = PlainPage(text).wrong_line()
            self.same(wrong, None)
            self.same(plan_page(read_plan(text)), text)
        self.wrong(train + 2, page_of(lines[:train + 1]))

    def test_the_last_line_without_a_line_feed(self):
        for page in (PAGE, TURNS):
            lines = lines_of(page)
            for many in range(1, len(lines) + 1):
                self.wrong(many, page_of(lines[:many])[:-1])
            self.wrong(len(lines) + 1, page + " ")
            self.wrong(len(lines) + 1, page + "\n")

    def test_trains_with_no_and_with_seven_lines_of_steps(self):
        begun = lines_of(PASSING_PLACE) + ["train a 15 out 3"]
        last = len(begun)
        self.wrong(last + 1, page_of(begun))
        self.wrong(last + 1, page_of(begun + ["train b 15 out 3", STEP]))
        self.wrong(last + 1, page_of(begun + ["turn b a 5"]))
        self.wrong(last + 1, page_of(begun + ["wait b 0 a 0 5"]))
        self.wrong(last, page_of(begun[:-1] + [STEP]))
        # Six lines are taken, though the plan is refused then; of seven the last one is wrong.
        self.wrong(last + 7, page_of(begun + [STEP] * 6))
        self.wrong(last + 7, page_of(begun + [STEP] * 7))
        self.wrong(last + 7, page_of(begun + [STEP] * 8))

    def test_six_steps(self):
        names = "abcdef"
        text = [f"plain {name} 9" for name in names] + [f"joint {one}.b {other}.a" for one, other in zip(names, names[1:])]
        text += ["border west a.a", "border east f.b"] + [f"signal s{name} {name}.b" for name in names[:5]]
        marks = ["west"] + [f"s{name}" for name in names[:5]] + ["east"]
        steps = [f"step {one}.{other}.1 stop 0 public - times 5" for one, other in zip(marks, marks[1:])]
        page = page_of(text + ["train x 5 out 1"] + steps)
        self.same([plan_page(read_plan(page)), len(read_plan(page).train_of("x"))], [page, 6])
        self.wrong(len(lines_of(page)) + 1, page + steps[0] + "\n")

    def test_what_a_train_and_a_step_refuse(self):
        begun = lines_of(PASSING_PLACE)
        at = len(begun)
        for line in ("train a 0 out 3", "train a 61 out 3", "train a 15 out 0", "train a 15 out 1000001", "train A 15 out 3",
                     "train abcdefg 15 out 3", "train a1 15 out 3", "train  15 out 3", "train a 15 in 3", "train a 15 3 out",
                     "train a 15 out", "train a 15", "train a 15 out 3 4", "train a - out 3", "train a 99999999999 out 3"):
            self.wrong(at + 1, page_of(begun + [line, STEP]))
        for line in ("step west.su.1 stop 0 public - times 4 4 11", "step west.su.1 stop 0 public - times 0 4 11",
                     "step west.su.1 stop 0 public - times 4 5 1000001", "step west.su.1 stop 1000001 public - times 4 5 11",
                     "step west.su.1 stop 0 public 1000001 times 4 5 11", "step west.su.1 stop - public - times 4 5 11",
                     "step west.su.1 stop 0 public - times", "step west.su.1 stop 0 public - times ",
                     "step west.su.1 stop 0 public -- times 4", "step west.su.1 stop 0 public None times 4",
                     "step west.su.1 stop 0 public  times 4", "step west.su.1 stop 0 times 4 5 11",
                     "step west.su.1 public - stop 0 times 4 5 11", "step  stop 0 public - times 4 5 11",
                     "step stop 0 public - times 4 5 11", "step west.su.1 stop 0 public - time 4 5 11",
                     "step west.su.1 stop 0 public - times " + " ".join(map(str, range(1, 26))),
                     "step west.su.1 stop 0 public - times 4 5 99999999999"):
            self.wrong(at + 2, page_of(begun + ["train a 15 out 3", line]))
        for line in ("train a 60 out 1000000", "train abcdef 1 out 1"):
            self.wrong(at + 2, page_of(begun + [line]))

    def test_layouts_that_are_refused(self):
        # From each of five borders there are routes to all others, over points.
        fan = "plain a 9; plain b 9; plain c 9; plain d 9; plain e 9; plain f 9; plain g 9; plain h 9; point p 5; point q 5;" \
              "point r 5; point s 5; point t 5; point u 5; joint a.b p.left; joint b.b p.right; joint c.b q.left;" \
              "joint d.b q.right; joint e.b t.left; joint f.b t.right; joint g.b u.left; joint h.b u.right;" \
              "joint p.stem r.left; joint q.stem r.right; joint r.stem s.stem; joint s.left t.stem; joint s.right u.stem;"
        borders = "".join(f"border w{name} {name}.a;" for name in "abcdefgh")
        text = page_of(line.strip() for line in (fan + borders).split(";") if line)
        self.same(len(lines_of(text)), 14 + 13 + 8)
        lines = lines_of(text)
        self.wrong(len(lines) + 1, text)
        self.wrong(len(lines) + 3, page_of(lines + ["train a 9 out 1", "step wa.we.1 stop 0 public - times 1 2 3 4 5 6"]))
        self.same(read_plan(page_of(lines[:-3])).layout.element_names(), sorted("abcdefghpqrstu"))

    def test_plans_that_are_refused(self):
        lines = lines_of(PASSING_PLACE)
        one = ["train a 15 out 3", STEP]
        behind = [["train a 15 out 3", STEP.replace("west.su.1", "west.su.2")], ["train a 15 out 3", STEP.replace("west.su.1", "nowhere")],
                  one + one, ["train a 15 out 3", STEP + " 12"], ["train a 31 out 3", STEP],
                  ["train a 15 out 3", "step su.m.1 stop 0 public - times 1 5"], one + ["turn b a 5"], one + ["turn a a 5"],
                  one + ["wait a 0 b 0 5"], one + ["wait a 0 a 0 5"], one + ["wait b 99 a 0 5"],
                  one + ["turn b a 99999999999999999999"], one + ["wait a 99999999999999999999 a 0 1"],
                  [row for name in "abcdefg" for row in (f"train {name} 15 out 3", STEP)]]
        for rows in behind:
            self.wrong(len(lines) + len(rows) + 1, page_of(lines + rows))

    def test_turns_and_waits_at_their_edges(self):
        for word, other in (("turn b a 5", "turn b a 1000000"), ("wait c 0 b 0 0", "wait c 0 b 0 1000000")):
            text = TURNS.replace(word, other)
            self.same(plan_page(read_plan(text)), text)
            self.wrong(len(lines_of(TURNS)) + 1, TURNS.replace(word, other.replace("1000000", "1000001")))
        at = lines_of(TURNS).index("turn b a 5")
        for line in ("turn b a", "turn b a 5 6", "turn 5 b a", "turn b 5 a", "turn B a 5", "turn b a1 5", "turn  a 5", "turn b abcdefg 5"):
            self.wrong(at + 1, TURNS.replace("turn b a 5", line))
        for line in ("wait c 0 b 0", "wait c 0 b 0 0 0", "wait c b 0 0 0", "wait 0 c b 0 0", "wait C 0 b 0 0", "wait c 0 B 0 0",
                     "wait c 0 b - 0", "wait c x b 0 0", "wait c 0  0 0"):
            self.wrong(at + 2, TURNS.replace("wait c 0 b 0 0", line))

    def test_changed_at_random(self):
        told = {"right": 0, "at once": 0, "behind": 0}
        for seed in range(1500):
            chance = random.Random(seed)
            text = plan_page(some_plan(chance, most_trains=3)) if seed % 3 else chance.choice([PAGE, TURNS])
            for _ in range(chance.choice([1, 1, 2])):
                at = chance.randrange(len(text) + 1)
                more = chance.choice(["", " ", "0", "1", "9", "-", "a", "\n", ".", "train", chance.choice(lines_of(text)) + "\n"])
                text = text[:at] + more + text[at + chance.choice([0, 0, 1, 1, 2]):]
            wrong = PlainPage(text).wrong_line()
            if wrong is None:
                self.same(plan_page(read_plan(text)), text)
                told["right"] += 1
            else:
                self.refused(InvalidText(wrong), read_plan, text)
                told["behind" if wrong > len(lines_of(text)) else "at once"] += 1
        self.assertTrue(min(told.values()) > 60, told)


class BoardTest(Case):
    def test_columns(self):
        day = LedDay(Plan(PLACE, A, B))
        day.enter("a")
        day.enter("a", late=7)
        self.same(board(day), ["a       0 west.su.1              0", "a       1 su.m.1                18",
                               "a       2 m.east.1               -", "b       0 east.n.1               -",
                               "b       1 n.tu.1                 -", "b       2 tu.west.1              -"])
        self.is_new_list(lambda: board(day=day))
        self.same(board(LedDay(Plan(PLACE))), [])

    def test_long_names_and_great_moments(self):
        layout = Layout(track_of("plain x 20; plain y 20; joint x.b y.a; border abcdef x.a; border uvwxyz y.b"))
        train = Train("ghijkl", 5, Step("abcdef.uvwxyz.1", [10 ** 6 - 1, 10 ** 6], public=10 ** 6))
        day = LedDay(Plan(layout, train))
        self.same(board(day), ["ghijkl  0 abcdef.uvwxyz.1        -"])
        day.enter("ghijkl")
        self.same(board(day), ["ghijkl  0 abcdef.uvwxyz.1  1000000"])
        day.undo()
        day.enter("ghijkl", late=10 ** 6)
        self.same(board(day), ["ghijkl  0 abcdef.uvwxyz.1  2000000"])

    def test_moments_beyond_the_columns(self):
        times = [10 ** 6 - 1, 10 ** 6]
        plan = Plan(LINE, Train("a", 5, Step("west.ey.1", times, stop=10 ** 6, public=10 ** 6), Step("ey.ez.1", [10 ** 6], stop=10 ** 6),
                                Step("ez.east.1", [10 ** 6])))
        day = LedDay(plan)
        for _ in range(3):
            day.enter("a", late=10 ** 6)
        self.same([row[:26] for row in board(day)], ["a       0 west.ey.1       ", "a       1 ey.ez.1         ", "a       2 ez.east.1       "])
        self.same([row[26:] for row in board(day)], [" 2000000", " 5000000", " 8000000"])
        long = Train("b", 5, Step("west.ey.1", times, public=10 ** 6))
        day = LedDay(Plan(LINE, plan.train_of("a"), long, waits=[("b", 0, "a", 2, 10 ** 6)]))
        for train in "aaa":
            day.enter(train, late=10 ** 6)
        day.enter("b", late=10 ** 6)
        self.same(board(day)[3], "b       0 west.ey.1        11000000")

    def test_each_moment_is_right_aligned(self):
        for seed in range(60):
            chance = random.Random(seed)
            plan = some_plan(chance)
            day = LedDay(plan, guarded=False)
            while day.choices():
                day.enter(chance.choice(day.choices()), late=chance.choice([0, 10 ** chance.randrange(7)]))
            wanted = []
            for entry in plan.entries():
                moment = "-" if day.moment(entry) is None else str(day.moment(entry))
                wanted.append(" ".join([entry[0].ljust(6), str(entry[1]).rjust(2), plan.step_of(entry).route.ljust(16),
                                        moment.rjust(7)]))
            self.same(board(day), wanted)


if __name__ == "__main__":
    unittest.main()
