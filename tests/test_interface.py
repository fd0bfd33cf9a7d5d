"""The names and parameters of the interface, and the files and classes in which they are defined."""

import importlib
import inspect
import re
import unittest

FUNCTIONS = {
    "names": {"is_name": "(value)", "is_number": "(value, least, most)", "is_end": "(value)", "is_entry": "(value)"},
    "tracktext": {"track_text": "(track)", "read_track": "(text)"},
    "walks": {"begin": "(track, mark)", "outward": "(track, end)", "walks": "(track, mark)"},
    "routes": {"all_routes": "(track)", "disagree": "(one, other)"},
    "clears": {"distances": "(layout, train)", "clear_within": "(layout, train, step, element)",
               "clear_of_stand": "(layout, train)"},
    "records": {"record_text": "(machine)", "play_record": "(plan, text)", "play_row": "(plan, row)"},
    "standings": {"size": "(plan)", "lets": "(plan, standing)", "after": "(plan, standing, train)",
                  "hindrance": "(plan, standing, train)", "locked": "(plan, standing)",
                  "entry_rows": "(plan, standing)"},
    "orders": {"pairs": "(plan)", "is_row": "(plan, value)"},
    "tables": {"tables": "(plan)", "forced": "(plan, known)"},
    "moments": {"longest": "(table, one, other)"},
    "fits": {"limits": "(table, *wishes)", "fit": "(table, *wishes)"},
    "lateness": {"latest": "(table, entry, bounds, *, late=1, of='steps')",
                 "worst": "(table, entry, bounds, *, late=1, of='steps')",
                 "keeps": "(delays, bounds, *, late=1, of='steps')"},
    "papers": {"paper": "(table, bounds, *, late=1)"},
    "buffers": {"buffer": "(table, one, other)", "reach": "(table, entry)", "needless": "(table, delays, entry)",
                "tightest": "(table)"},
    "profiles": {"profile": "(table, entry)", "outdone": "(one, other)", "moment_by": "(profile, delays)"},
    "alike": {"alike_at": "(one, other, entry)", "alike": "(one, other)", "parting": "(one, other, entry)"},
    "pages": {"plan_page": "(plan)", "read_plan": "(text)", "board": "(day)"},
}
NO_ARGUMENTS = "(self)"
MACHINE = {
    "__init__": "(self, plan)", "ask": "(self, train)", "would": "(self, train)", "move": "(self, train)",
    "run": "(self, train)", "run_all": NO_ARGUMENTS, "deeds": "(self, *deeds)", "history": NO_ARGUMENTS,
    "back": NO_ARGUMENTS, "keeper": "(self, element)", "guards": "(self, element)", "position": "(self, element)",
    "body": "(self, train)", "passed": "(self, train)", "has_arrived": "(self, train, step)", "twin": NO_ARGUMENTS,
    "__repr__": NO_ARGUMENTS}
CLASSES = {
    "sections": {"Section": {
        "__init__": "(self, name, length)", "sides": NO_ARGUMENTS, "ends": NO_ARGUMENTS, "ways": "(self, side)",
        "text": NO_ARGUMENTS, "__eq__": "(self, other)", "__repr__": NO_ARGUMENTS}},
    "track": {"Track": {
        "__init__": NO_ARGUMENTS, "put": "(self, section)", "tie": "(self, one, other)",
        "border": "(self, name, end)", "signal": "(self, name, end)", "untie": "(self, end)", "drop": "(self, name)",
        "sections": NO_ARGUMENTS, "section": "(self, name)", "marks": NO_ARGUMENTS, "mark": "(self, name)",
        "joints": NO_ARGUMENTS, "beyond": "(self, end)", "mark_at": "(self, end)", "twin": NO_ARGUMENTS,
        "__contains__": "(self, x)", "__len__": NO_ARGUMENTS, "__bool__": NO_ARGUMENTS, "__eq__": "(self, other)",
        "__repr__": NO_ARGUMENTS}},
    "routes": {"Route": {
        "sections": NO_ARGUMENTS, "names": NO_ARGUMENTS, "lengths": NO_ARGUMENTS, "demand": NO_ARGUMENTS,
        "flanks": NO_ARGUMENTS, "askers": "(self, point)", "__len__": NO_ARGUMENTS, "__eq__": "(self, other)",
        "__repr__": NO_ARGUMENTS}},
    "layouts": {"Layout": {
        "__init__": "(self, track)", "track": NO_ARGUMENTS, "routes": NO_ARGUMENTS, "route_of": "(self, name)",
        "routes_from": "(self, mark)", "element_names": NO_ARGUMENTS, "is_point": "(self, element)",
        "disagreements": "(self, one, other)", "clash": "(self, one, other)", "__contains__": "(self, x)",
        "__len__": NO_ARGUMENTS, "__bool__": NO_ARGUMENTS, "__eq__": "(self, other)", "__repr__": NO_ARGUMENTS}},
    "trains": {
        "Step": {"__init__": "(self, route, times, *, stop=0, public=None)", "times": NO_ARGUMENTS,
                 "__eq__": "(self, other)", "__repr__": NO_ARGUMENTS},
        "Train": {"__init__": "(self, name, length, *steps, out=1)", "steps": NO_ARGUMENTS, "__getitem__": "(self, at)",
                  "longer": "(self, by)", "__len__": NO_ARGUMENTS, "__bool__": NO_ARGUMENTS,
                  "__eq__": "(self, other)", "__repr__": NO_ARGUMENTS}},
    "plans": {"Plan": {
        "__init__": "(self, layout, *trains, turns=(), waits=())", "trains": NO_ARGUMENTS, "train_of": "(self, name)",
        "entries": NO_ARGUMENTS, "step_of": "(self, entry)", "route_of": "(self, entry)", "demand_of": "(self, entry)",
        "place_of": "(self, entry)", "clear_of": "(self, entry, element)", "turns": NO_ARGUMENTS,
        "waits": NO_ARGUMENTS, "made_of": "(self, name)", "made_into": "(self, name)", "chain": "(self, name)",
        "with_train": "(self, train)", "__contains__": "(self, x)", "__len__": NO_ARGUMENTS, "__bool__": NO_ARGUMENTS,
        "__eq__": "(self, other)", "__repr__": NO_ARGUMENTS}},
    "locks": {"Locks": {
        "__init__": "(self, layout, trains)", "lock": "(self, train, demand)", "let_go": "(self, train, element, use)",
        "pass_on": "(self, train, other)", "keeper": "(self, element)", "guards": "(self, element)",
        "position": "(self, element)", "held_by": "(self, train)", "guarded_by": "(self, train)",
        "against": "(self, demand)", "twin": NO_ARGUMENTS}},
    "machine": {"Machine": MACHINE},
    "safety": {
        "Safety": {"__init__": "(self, plan)", "reached": NO_ARGUMENTS, "safe": NO_ARGUMENTS, "doomed": NO_ARGUMENTS,
                   "stuck": NO_ARGUMENTS, "is_safe": "(self, standing)", "lead": "(self, standing)",
                   "behind": "(self, standing)", "bars": NO_ARGUMENTS, "trap": NO_ARGUMENTS},
        "Trap": {"__init__": "(self, row, hindrances, ring)", "row": NO_ARGUMENTS, "hindrances": NO_ARGUMENTS,
                 "ring": NO_ARGUMENTS, "holds": "(self, plan)"}},
    "guards": {"GuardedMachine": {**MACHINE, "choices": NO_ARGUMENTS}},
    "orders": {"Table": {
        "__init__": "(self, plan, firsts)", "firsts": NO_ARGUMENTS, "is_ahead": "(self, one, other)",
        "turned": "(self, at)", "first_of": "(self, pair)", "__len__": NO_ARGUMENTS, "__bool__": NO_ARGUMENTS,
        "__eq__": "(self, other)", "__repr__": NO_ARGUMENTS}},
    "webs": {"Web": {
        "__init__": "(self, table)", "ties": NO_ARGUMENTS, "into": "(self, entry)", "out_of": "(self, entry)",
        "bars": NO_ARGUMENTS, "ring": NO_ARGUMENTS, "row": NO_ARGUMENTS, "is_ring": "(self, value)"}},
    "moments": {"Moments": {
        "__init__": "(self, table, delays=None)", "moment": "(self, entry)", "moments": NO_ARGUMENTS,
        "way": "(self, entry)", "slack": "(self, tie)"}},
    "fits": {
        "Fit": {"least": "(self, entry)", "greatest": "(self, entry)", "earliest": NO_ARGUMENTS,
                "is_day": "(self, moments)", "__bool__": NO_ARGUMENTS},
        "Unfit": {"__init__": "(self, table, wishes, ring)", "ring": NO_ARGUMENTS, "holds": NO_ARGUMENTS,
                  "__bool__": NO_ARGUMENTS}},
    "papers": {"Paper": {
        "__init__": "(self, table, bounds, numbers)", "numbers": NO_ARGUMENTS, "holds": NO_ARGUMENTS,
        "number": "(self, entry, late)"}},
    "sightings": {"Sightings": {
        "__init__": "(self, table, seen)", "seen": NO_ARGUMENTS, "ring": NO_ARGUMENTS, "range_of": "(self, entry)",
        "surely_late": NO_ARGUMENTS, "blamed": "(self, entry)"}},
    "ratios": {"Ratio": {
        "__init__": "(self, top, bottom=1)", "over": "(self, other)", "compare": "(self, other)", "ceiling": NO_ARGUMENTS,
        "floor": NO_ARGUMENTS, "__add__": "(self, other)", "__radd__": "(self, other)", "__sub__": "(self, other)",
        "__rsub__": "(self, other)", "__mul__": "(self, other)", "__rmul__": "(self, other)",
        "__floordiv__": "(self, other)", "__neg__": NO_ARGUMENTS, "__abs__": NO_ARGUMENTS, "__bool__": NO_ARGUMENTS,
        "__eq__": "(self, other)", "__str__": NO_ARGUMENTS, "__repr__": NO_ARGUMENTS}},
    "rounds": {"RoundWeb": {
        "__init__": "(self, plan, heights)", "heights": NO_ARGUMENTS, "ties": NO_ARGUMENTS, "bar": NO_ARGUMENTS,
        "least": NO_ARGUMENTS, "critical": NO_ARGUMENTS, "fits": "(self, period)", "moments": "(self, period)",
        "ring_above": "(self, period)", "is_ring": "(self, value)"}},
    "rota": {"Rota": {
        "__init__": "(self, journeys, change=0)", "journeys": NO_ARGUMENTS, "can_follow": "(self, later, earlier)",
        "links": NO_ARGUMENTS, "sets": NO_ARGUMENTS, "cover": NO_ARGUMENTS, "is_cover": "(self, value)"}},
    "led": {"LedDay": {
        "__init__": "(self, plan, *, guarded=True)", "enter": "(self, train, *, late=0)", "enter_all": "(self, *trains)",
        "preview": "(self, *trains)", "made": NO_ARGUMENTS, "moment": "(self, entry)", "orders": NO_ARGUMENTS,
        "still": NO_ARGUMENTS, "choices": NO_ARGUMENTS, "goes_on": "(self, table)",
        "outlook": "(self, table, bounds=None, *, late=0)", "undo": NO_ARGUMENTS, "redo": NO_ARGUMENTS,
        "history": NO_ARGUMENTS, "twin": NO_ARGUMENTS, "course": NO_ARGUMENTS, "__repr__": NO_ARGUMENTS}},
    "desk": {"Desk": {
        "__init__": "(self, plan, *, guarded=True)", "set_spare": "(self, value)", "say": "(self, line)",
        "__call__": "(self, line)", "log": NO_ARGUMENTS, "__len__": NO_ARGUMENTS, "__bool__": NO_ARGUMENTS,
        "__repr__": NO_ARGUMENTS}},
}
CLASS_METHODS = {"orders": {"Table": {"of_row": "(plan, row)"}}, "ratios": {"Ratio": {"read": "(text)"}}}
OF_MACHINES = ["standing", "free", "is_over", "busy"]
PROPERTIES = {"trains": {"Step": ["arrival", "base"]}, "locks": {"Locks": ["free"]}, "machine": {"Machine": OF_MACHINES},
              "guards": {"GuardedMachine": OF_MACHINES}, "safety": {"Safety": ["never_sticks"]},
              "webs": {"Web": ["is_runnable"]}, "moments": {"Moments": ["last"]}, "sightings": {"Sightings": ["agrees"]},
              "rota": {"Rota": ["fewest"]}, "led": {"LedDay": ["standing", "safe_now", "is_over"]},
              "desk": {"Desk": ["spare"]}}
GENERATORS = {"walks": "walks", "standings": "entry_rows", "tables": "tables"}
KINDS = ["Plain", "Point", "Crossing"]
CLASS_VALUES = {"sections": {"Section": {"KIND": "none", "MOST": 50}}, "layouts": {"Layout": {"MOST": 24}},
                "track": {"Track": {"SECTIONS": 24, "POINTS": 8, "MARKS": 12}}, "plans": {"Plan": {"TRAINS": 6}},
                "trains": {"Train": {"STEPS": 6, "LENGTH": 60}}, "safety": {"Safety": {"MOST": 4000}},
                "rota": {"Rota": {"MOST": 40}}}
# The files in the order of the document; each one needs only those ahead of it.
FILES = ("errors names sections track tracktext walks routes layouts trains clears plans locks machine records standings "
         "safety guards orders webs tables moments fits lateness papers buffers profiles alike sightings ratios rounds rota "
         "led pages desk").split()


def file_of(name):
    return importlib.import_module(f"ringlessday.{name}")


class InterfaceTest(unittest.TestCase):
    def test_functions(self):
        for file, functions in FUNCTIONS.items():
            for name, parameters in functions.items():
                found = getattr(file_of(file), name)
                self.assertEqual(found.__module__, f"ringlessday.{file}")
                self.assertEqual(str(inspect.signature(found)), parameters, name)

    def test_methods_are_defined_in_the_class_itself(self):
        for file, classes in CLASSES.items():
            for name, methods in classes.items():
                kind = getattr(file_of(file), name)
                self.assertEqual(kind.__module__, f"ringlessday.{file}")
                for method, parameters in methods.items():
                    self.assertIn(method, vars(kind), f"{name}.{method}")
                    self.assertEqual(str(inspect.signature(vars(kind)[method])), parameters, f"{name}.{method}")

    def test_class_methods(self):
        for file, classes in CLASS_METHODS.items():
            for name, methods in classes.items():
                kind = getattr(file_of(file), name)
                for method, parameters in methods.items():
                    self.assertIsInstance(vars(kind)[method], classmethod)
                    self.assertEqual(str(inspect.signature(getattr(kind, method))), parameters, f"{name}.{method}")

    def test_properties(self):
        for file, classes in PROPERTIES.items():
            for name, properties in classes.items():
                for one in properties:
                    self.assertIsInstance(vars(getattr(file_of(file), name))[one], property)

    def test_class_values(self):
        for file, classes in CLASS_VALUES.items():
            for name, values in classes.items():
                self.assertEqual({value: getattr(getattr(file_of(file), name), value) for value in values}, values)

    def test_each_file_needs_only_those_ahead_of_it(self):
        for at, name in enumerate(FILES):
            met, left = set(), [name]
            while left:
                source = inspect.getsource(file_of(left.pop()))
                new = set(re.findall(r"^from ringlessday\.(\w+) import", source, re.MULTILINE)) - met
                met |= new
                left += new
            self.assertEqual([other for other in met if other in FILES[at:]], [], name)

    def test_kinds_of_sections(self):
        for name in KINDS:
            self.assertEqual(getattr(file_of("sections"), name).__module__, "ringlessday.sections")

    def test_generators(self):
        for file, name in GENERATORS.items():
            self.assertTrue(inspect.isgeneratorfunction(getattr(file_of(file), name)))


if __name__ == "__main__":
    unittest.main()
