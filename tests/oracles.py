"""What the document says of machines and standings, written down once more in the plainest way, for comparison."""

from itertools import combinations, product

from ringlessday.errors import Finished, Lacking, NothingLeft, Refused, Unready


def disagreements(one, other):
    """The elements at which two demands disagree."""
    found = []
    for element in sorted({row[0] for row in one}):
        rows = [(mine, its) for mine in one for its in other if mine[0] == its[0] == element]
        if any(mine[1] == its[1] == "hold" or mine[2] != its[2] for mine, its in rows):
            found.append(element)
    return found


class PlainMachine:
    """A machine that finds all locks anew from the numbers of entered steps and of moves."""

    def __init__(self, plan):
        self.plan = plan
        self.entered = {name: 0 for name in plan.trains()}
        self.moves = {name: 0 for name in plan.trains()}
        self.positions = {name: "left" for name in plan.layout.element_names() if plan.layout.is_point(name)}

    def made(self):
        return [entry for entry in self.plan.entries() if entry[1] < self.entered[entry[0]]]

    def times(self, entry):
        """The times of all moves of an entry, the way out of the area included."""
        step = self.plan.step_of(entry)
        leaves = self.plan.route_of(entry).leaves
        return step.times() + ([step.arrival + self.plan.train_of(entry[0]).out] if leaves else [])

    def moves_of(self, entry):
        """How many moves of an entry are made."""
        if entry[1] < self.entered[entry[0]] - 1:
            return len(self.plan.step_of(entry).times())
        return self.moves[entry[0]] if entry[1] == self.entered[entry[0]] - 1 else 0

    def is_there(self, clear):
        entry = clear[:2]
        return clear[2] in self.times(entry)[:self.moves_of(entry)]

    def locks(self):
        """The tuples (train, element, use, position, entry) of all that is locked."""
        found = []
        for entry in self.made():
            for element, use, position in self.plan.demand_of(entry):
                clear = self.plan.clear_of(entry, element)
                if clear is None or not self.is_there(clear):
                    heir = self.plan.made_into(entry[0])
                    taken = heir is not None and self.entered[heir] > 0
                    found.append((heir if taken else entry[0], element, use, position, entry))
        return found

    def locked_by(self, train, *uses):
        return sorted({row[1] for row in self.locks() if row[0] == train and row[2] in uses})

    def trains_at(self, element, use):
        there = {row[0] for row in self.locks() if row[1:3] == (element, use)}
        return [train for train in self.plan.trains() if train in there]

    def has_arrived(self, train, step):
        return step < self.entered[train] and self.moves_of((train, step)) >= len(self.plan.step_of((train, step)).times())

    def error(self, train):
        """The error that an ask raises, or None."""
        step = self.entered[train]
        if step == len(self.plan.train_of(train)):
            return Finished(train)
        if step > 0 and not self.has_arrived(train, step - 1):
            return Unready(train)
        for other in [turn[1] for turn in self.plan.turns() if turn[0] == train]:
            if not self.has_arrived(other, len(self.plan.train_of(other)) - 1):
                return Lacking(train, other)
        for name, its_step, other, other_step, _ in self.plan.waits():
            if (name, its_step) == (train, step) and not self.has_arrived(other, other_step):
                return Lacking(train, other)
        demand = self.plan.demand_of((train, step))
        for element in sorted({row[0] for row in demand}):
            for name in self.plan.trains():
                if disagreements(demand, [row[1:4] for row in self.locks() if row[0] == name and row[1] == element]):
                    return Refused(train, element, name)
        return None

    def ask(self, train):
        """Makes an entry that is granted; returns the points that are turned."""
        turned = []
        for element, _, position in self.plan.demand_of((train, self.entered[train])):
            if position and self.positions[element] != position:
                turned.append(element)
                self.positions[element] = position
        self.entered[train] += 1
        self.moves[train] = 0
        return turned

    def is_ahead(self, train):
        step = self.entered[train] - 1
        return step >= 0 and self.moves[train] < len(self.times((train, step)))

    def move(self, train):
        ahead = self.locked_by(train, "hold", "guard")
        self.moves[train] += 1
        behind = self.locked_by(train, "hold", "guard")
        return [element for element in ahead if element not in behind]

    def body(self, train):
        found = []
        for holder, element, use, _, entry in self.locks():
            if holder == train and use == "hold":
                at = self.plan.route_of(entry).names().index(element)
                if self.moves_of(entry) > at:
                    found.append(element)
        return sorted(found)

    def state(self):
        """All that a machine tells of its state."""
        names = self.plan.layout.element_names()
        locked = {row[1] for row in self.locks()}
        passed = [(self.entered[train], min(self.moves[train], len(self.plan.route_of((train, self.entered[train] - 1))))
                   if self.entered[train] else 0) for train in self.plan.trains()]
        over = all(self.entered[train] == len(self.plan.train_of(train)) and not self.is_ahead(train)
                   for train in self.plan.trains())
        return [[(self.trains_at(name, "hold") or [None])[0] for name in names],
                [self.trains_at(name, "guard") for name in names], [self.positions.get(name, "") for name in names],
                [name for name in names if name not in locked], [self.body(train) for train in self.plan.trains()],
                passed, tuple(self.entered.values()), over]


def state_of(machine):
    """The same of a machine of the program."""
    names, trains = machine.plan.layout.element_names(), machine.plan.trains()
    return [[machine.keeper(name) for name in names], [machine.guards(name) for name in names],
            [machine.position(name) for name in names], machine.free, [machine.body(train) for train in trains],
            [machine.passed(train) for train in trains], machine.standing, machine.is_over]


def do_alike(case, machine, plain, word, train):
    """Does one deed with both machines; whatever they tell is the same."""
    before = state_of(machine), machine.history()
    if word == "ask":
        error = plain.error(train)
    else:
        error = None if plain.is_ahead(train) else NothingLeft()
    if error is not None:
        case.refused(error, machine.ask if word == "ask" else machine.move, train)
        if isinstance(error, Refused):
            case.same(machine.would(train), (error.element, error.holder))
        elif word == "ask":
            case.refused(error, machine.would, train)
        case.same((state_of(machine), machine.history()), before)
        return
    if word == "ask":
        case.same(machine.would(train), None)
    case.same(machine.ask(train) if word == "ask" else machine.move(train),
              plain.ask(train) if word == "ask" else plain.move(train))
    case.same(state_of(machine), plain.state())
    case.same(machine.history(), before[1] + [(word, train)])


class PlainStandings:
    """The standings of a plan, by their definitions."""

    def __init__(self, plan):
        self.plan = plan
        self.trains = plan.trains()
        self.steps = [len(plan.train_of(name)) for name in self.trains]
        self.end = tuple(self.steps)
        self.zeros = (0,) * len(self.trains)

    def is_made(self, standing, entry):
        return entry[1] < standing[self.trains.index(entry[0])]

    def lacked(self, standing, entry):
        plan = self.plan
        found = [(turn[1], len(plan.train_of(turn[1])) - 1) for turn in plan.turns() if turn[0] == entry[0]]
        found += [wait[2:4] for wait in plan.waits() if wait[:2] == entry]
        return [other for other, step in found if not self.is_made(standing, (other, step))]

    def barring(self, standing, later):
        """The tuples (element, entry that bars, its clear)."""
        found = []
        for entry in self.plan.entries():
            if entry[0] != later[0] and self.is_made(standing, entry):
                for element in disagreements(self.plan.demand_of(entry), self.plan.demand_of(later)):
                    clear = self.plan.clear_of(entry, element)
                    if clear is None or not self.is_made(standing, clear[:2]):
                        found.append((element, entry, clear))
        return found

    def next_entries(self, standing):
        return [(name, count) for name, count, most in zip(self.trains, standing, self.steps) if count < most]

    def lets(self, standing):
        return [entry[0] for entry in self.next_entries(standing)
                if not self.lacked(standing, entry) and not self.barring(standing, entry)]

    def after(self, standing, train):
        return tuple(count + (name == train) for name, count in zip(self.trains, standing))

    def hindrance(self, standing, train):
        entry = [entry for entry in self.next_entries(standing) if entry[0] == train][0]
        lacked, barring = self.lacked(standing, entry), self.barring(standing, entry)
        if lacked:
            return (train, None, lacked[0])
        if not barring:
            return None
        element = min(row[0] for row in barring)
        lockers = []
        for at, bar, clear in barring:
            if at == element:
                heir = self.plan.made_into(bar[0])
                taken = clear is not None and clear[0] == heir and self.is_made(standing, (heir, 0))
                lockers.append(heir if taken else bar[0])
        return (train, element, min(lockers, key=self.trains.index))

    def hindrances(self, standing):
        return [self.hindrance(standing, entry[0]) for entry in self.next_entries(standing)]

    def locked(self, standing):
        found = set()
        for entry in self.plan.entries():
            for element, _, _ in self.plan.demand_of(entry):
                clear = self.plan.clear_of(entry, element)
                if self.is_made(standing, entry) and (clear is None or not self.is_made(standing, clear[:2])):
                    found.add(element)
        return sorted(found)

    def onward(self, standing):
        """All standings to which entries that are let lead."""
        found, new = {standing}, [standing]
        while new:
            here = new.pop()
            for train in self.lets(here):
                there = self.after(here, train)
                if there not in found:
                    found.add(there)
                    new.append(there)
        return sorted(found)

    def rows(self, standing):
        """All rows of entries that are let and lead to the end, those of lesser trains first."""
        if standing == self.end:
            return [[]]
        return [[(train, standing[self.trains.index(train)])] + row
                for train in self.lets(standing) for row in self.rows(self.after(standing, train))]

    def ring(self, standing):
        train = self.next_entries(standing)[0][0]
        met = []
        while train not in met:
            if not any(entry[0] == train for entry in self.next_entries(standing)):
                return [train]
            met.append(train)
            train = self.hindrance(standing, train)[2]
        return met[met.index(train):]


def chains_differ(plan, one, other):
    return other[0] not in plan.chain(one[0])


class PlainWeb:
    """The ties and bars of a table, by their definitions."""

    def __init__(self, table):
        plan = table.plan
        self.entries = plan.entries()
        self.ties = set()
        self.bars = set()
        for one in self.entries:
            step = plan.step_of(one)
            if (one[0], one[1] + 1) in self.entries:
                self.ties.add((one, (one[0], one[1] + 1), step.arrival + step.stop, "run"))
            elif plan.made_into(one[0]):
                heir = plan.made_into(one[0])
                time = [turn[2] for turn in plan.turns() if turn[0] == heir][0]
                self.ties.add((one, (heir, 0), step.arrival + time, "turn"))
        for name, at, other, its, time in plan.waits():
            self.ties.add(((other, its), (name, at), plan.step_of((other, its)).arrival + time, "wait"))
        self.add_locks(table)
        self.ties, self.bars = sorted(self.ties), sorted(self.bars)

    def add_locks(self, table):
        plan = table.plan
        for one, later in combinations(self.entries, 2):
            if not chains_differ(plan, one, later):
                self.add_pair(plan, one, later, "own")
        for pair in table_pairs(plan):
            one = table.first_of(pair)
            self.add_pair(plan, one, pair[1] if one == pair[0] else pair[0], "clash")

    def add_pair(self, plan, one, later, reason):
        for element in disagreements(plan.demand_of(one), plan.demand_of(later)):
            clear = plan.clear_of(one, element)
            if clear is None:
                self.bars.add((one, later, element))
            else:
                self.ties.add((clear[:2], later, clear[2], reason))

    def rings(self):
        """All rings, each of them once, with the least entry first."""
        found = []

        def go(ring):
            for tie in self.ties:
                if tie[0] == ring[-1][1]:
                    if tie[1] == ring[0][0]:
                        found.append(ring + [tie])
                    elif tie[1] > ring[0][0] and tie[1] not in [row[0] for row in ring]:
                        go(ring + [tie])

        for tie in self.ties:
            if tie[1] > tie[0]:
                go([tie])
        return found

    def has_ring(self):
        left = list(self.entries)
        while True:
            free = [entry for entry in left if not any(tie[1] == entry and tie[0] in left for tie in self.ties)]
            if not free:
                return bool(left)
            left = [entry for entry in left if entry not in free]

    def is_runnable(self):
        return not self.bars and not self.has_ring()

    def row(self):
        """The row of the first entries in order."""
        row = []
        while len(row) < len(self.entries):
            row.append([entry for entry in self.entries if entry not in row
                        and all(tie[0] in row for tie in self.ties if tie[1] == entry)][0])
        return row

    def ways(self, entry):
        """All ways to an entry, in a web without rings."""
        found = [[]]
        for tie in self.ties:
            if tie[1] == entry:
                found += [way + [tie] for way in self.ways(tie[0])]
        return found

    def sum_of(self, plan, way, entry):
        begun = way[0][0] if way else entry
        return plan.step_of(begun).base + sum(tie[2] for tie in way)


def table_pairs(plan):
    """The pairs of a plan, by their definition."""
    return [(one, other) for one, other in combinations(plan.entries(), 2)
            if chains_differ(plan, one, other) and disagreements(plan.demand_of(one), plan.demand_of(other))]


def plain_moments(table, plain, delays):
    """The moments of all entries with delays, in a web without bar and ring, by their definition."""
    told = {}
    for entry in plain.row():
        sums = [told[tie[0]] + tie[2] for tie in plain.ties if tie[1] == entry]
        told[entry] = max([table.plan.step_of(entry).base, *sums]) + delays.get(entry, 0)
    return told


def all_delays(bounds):
    """All delays that are not above their bounds, those of 0 left out."""
    entries = list(bounds)
    for numbers in product(*[range(bounds[entry] + 1) for entry in entries]):
        yield {entry: number for entry, number in zip(entries, numbers) if number}


def late_ones(delays, of):
    """How many entries, or trains, have a delay above 0."""
    return len({entry if of == "steps" else entry[0] for entry in delays if delays[entry] > 0})
