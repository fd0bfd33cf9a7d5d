"""Plans: the trains of a day on a layout, with their turns and waits."""

from ringlessday.clears import clear_of_stand, clear_within
from ringlessday.errors import DuplicateName, OwnRing, TooMany, UnknownEntry, UnknownName
from ringlessday.fitting import refuse_misplaced, refuse_starts, refuse_turns, refuse_waits
from ringlessday.names import is_entry, is_name
from ringlessday.routes import disagree


class Plan:
    """Trains in an order, some made of others, some waiting for others."""

    TRAINS = 6

    def __init__(self, layout, *trains, turns=(), waits=()):
        if len(trains) > Plan.TRAINS:
            raise TooMany("trains", Plan.TRAINS)
        self.layout = layout
        self._trains = {}
        for train in trains:
            if train.name in self._trains:
                raise DuplicateName(train.name)
            refuse_misplaced(layout, train)
            self._trains[train.name] = train
        refuse_turns(layout, self._trains, turns)
        self._turns = list(turns)
        self._made_of = {name: other for name, other, time in self._turns}
        self._made_into = {other: name for name, other, time in self._turns}
        refuse_starts(layout, self._trains, self._made_of)
        refuse_waits(self._trains, {name: self._root(name) for name in self._trains}, waits)
        self._waits = list(waits)
        self._entries = [(name, at) for name in self._trains for at in range(len(self._trains[name]))]
        self._places = {entry: at for at, entry in enumerate(self._entries)}
        self._clears = {entry: self._clears_of(entry) for entry in self._entries}
        self._refuse_own_rings()

    def trains(self):
        return list(self._trains)

    def train_of(self, name):
        if name not in self:
            raise UnknownName(name)
        return self._trains[name]

    def entries(self):
        return list(self._entries)

    def step_of(self, entry):
        self._refuse_unknown(entry)
        return self._trains[entry[0]][entry[1]]

    def route_of(self, entry):
        return self.layout.route_of(self.step_of(entry).route)

    def demand_of(self, entry):
        return self.route_of(entry).demand()

    def place_of(self, entry):
        self._refuse_unknown(entry)
        return self._places[entry]

    def clear_of(self, entry, element):
        self._refuse_unknown(entry)
        if not is_name(element) or element not in self._clears[entry]:
            raise UnknownName(element)
        return self._clears[entry][element]

    def turns(self):
        return list(self._turns)

    def waits(self):
        return list(self._waits)

    def made_of(self, name):
        return self._made_of.get(self.train_of(name).name)

    def made_into(self, name):
        return self._made_into.get(self.train_of(name).name)

    def chain(self, name):
        found = []
        link = self._root(self.train_of(name).name)
        while link is not None:
            found.append(link)
            link = self._made_into.get(link)
        return found

    def with_train(self, train):
        self.train_of(train.name)
        trains = {name: self._trains[name] for name in self._trains}
        trains[train.name] = train
        placed = list(trains.values())
        return Plan(self.layout, *placed, turns=self._turns, waits=self._waits)

    def __contains__(self, x):
        return is_name(x) and x in self._trains

    def __len__(self):
        return len(self._trains)

    def __bool__(self):
        return True

    def __eq__(self, other):
        if not isinstance(other, Plan) or self.layout != other.layout:
            return False
        if list(self._trains.values()) != list(other._trains.values()):
            return False
        return self._turns == other._turns and self._waits == other._waits

    def __repr__(self):
        return f"Plan({len(self._trains)} trains)"

    def _refuse_unknown(self, entry):
        if not is_entry(entry) or entry not in self._places:
            raise UnknownEntry(entry)

    def _root(self, name):
        """The first train of a chain."""
        link = name
        while link in self._made_of:
            link = self._made_of[link]
        return link

    def _clears_of(self, entry):
        """The clears of all elements of the demand of an entry."""
        return {row[0]: self._clear(entry, row[0]) for row in self.demand_of(entry)}

    def _clear(self, entry, element):
        name, at = entry
        clear = clear_within(self.layout, self._trains[name], at, element)
        if clear is None and name in self._made_into:
            name = self._made_into[name]
            clear = clear_of_stand(self.layout, self._trains[name])
        return None if clear is None else (name, clear[0], clear[1])

    def _refuse_own_rings(self):
        for later in self._entries:
            broken = []
            for ahead in self._entries[:self._places[later]]:
                if self._root(ahead[0]) == self._root(later[0]):
                    broken.extend(self._overlaps(ahead, later))
            if broken:
                raise OwnRing(later[0], later[1], min(broken))

    def _overlaps(self, ahead, later):
        """The elements that a later entry of a chain needs before they are cleared for one ahead."""
        found = []
        for element in disagree(self.demand_of(ahead), self.demand_of(later)):
            clear = self._clears[ahead][element]
            if clear is None or self._places[clear[:2]] >= self._places[later]:
                found.append(element)
        return found
