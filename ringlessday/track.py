"""A track: sections, the joints between their ends, and the marks at them."""

from ringlessday.errors import DuplicateName, InUse, InvalidName, InvalidSection, LooseEnd
from ringlessday.errors import TakenEnd, TooMany, UnknownEnd, UnknownName
from ringlessday.names import is_end, is_name
from ringlessday.sections import Crossing, Plain, Point


class Track:
    """A track that can be changed deed by deed; a deed that is refused changes nothing."""

    SECTIONS = 24
    POINTS = 8
    MARKS = 12

    def __init__(self):
        self._sections = {}
        # Each joint stands here twice, once from each of its ends.
        self._tied = {}
        self._marks = {}
        self._marked = {}

    def put(self, section):
        if not isinstance(section, (Plain, Point, Crossing)):
            raise InvalidSection(section)
        self._refuse_duplicate(section.name)
        if len(self._sections) >= Track.SECTIONS:
            raise TooMany("sections", Track.SECTIONS)
        if isinstance(section, Point) and self._count_points() >= Track.POINTS:
            raise TooMany("points", Track.POINTS)
        self._sections[section.name] = section

    def tie(self, one, other):
        self._refuse_unknown(one)
        self._refuse_unknown(other)
        self._refuse_taken(one)
        self._refuse_taken(other)
        if one == other:
            raise TakenEnd(other)
        self._tied[one] = other
        self._tied[other] = one

    def border(self, name, end):
        self._refuse_mark(name, end)
        self._refuse_taken(end)
        self._set_mark("border", name, end)

    def signal(self, name, end):
        self._refuse_mark(name, end)
        self._refuse_loose(end)
        if end in self._marked:
            raise TakenEnd(end)
        self._set_mark("signal", name, end)

    def untie(self, end):
        self._refuse_unknown(end)
        self._refuse_loose(end)
        other = self._tied[end]
        for side in (end, other):
            if side in self._marked:
                raise InUse(self._marked[side])
        del self._tied[end]
        del self._tied[other]

    def drop(self, name):
        if name in self:
            for end in self._sections[name].ends():
                if self._is_taken(end):
                    raise InUse(name)
            del self._sections[name]
        else:
            end = self.mark(name)[2]
            del self._marks[name]
            del self._marked[end]

    def sections(self):
        return list(self._sections.values())

    def section(self, name):
        if name not in self:
            raise UnknownName(name)
        return self._sections[name]

    def marks(self):
        return list(self._marks.values())

    def mark(self, name):
        if not is_name(name) or name not in self._marks:
            raise UnknownName(name)
        return self._marks[name]

    def joints(self):
        return sorted([(one, other) for one, other in self._tied.items() if one < other])

    def beyond(self, end):
        self._refuse_unknown(end)
        return self._tied.get(end)

    def mark_at(self, end):
        self._refuse_unknown(end)
        return self._marked.get(end)

    def twin(self):
        twin = Track()
        twin._sections = {name: self._sections[name] for name in self._sections}
        twin._tied = {end: self._tied[end] for end in self._tied}
        twin._marks = {name: self._marks[name] for name in self._marks}
        twin._marked = {end: self._marked[end] for end in self._marked}
        return twin

    def __contains__(self, x):
        return is_name(x) and x in self._sections

    def __len__(self):
        return len(self._sections)

    def __bool__(self):
        return True

    def __eq__(self, other):
        if not isinstance(other, Track):
            return False
        # Dicts are equal in any order, but sections and marks are to stand in the same one.
        if self.sections() != other.sections() or self.marks() != other.marks():
            return False
        return self.joints() == other.joints()

    def __repr__(self):
        return f"Track({len(self._sections)} sections, {len(self._marks)} marks)"

    def _count_points(self):
        return len([section for section in self._sections.values() if isinstance(section, Point)])

    def _is_taken(self, end):
        # A signal stands only where there is a joint, so this is a joint or a border.
        return end in self._tied or end in self._marked

    def _refuse_duplicate(self, name):
        if name in self._sections or name in self._marks:
            raise DuplicateName(name)

    def _refuse_unknown(self, end):
        if not is_end(end) or end[0] not in self._sections or end[1] not in self._sections[end[0]].sides():
            raise UnknownEnd(end)

    def _refuse_taken(self, end):
        if self._is_taken(end):
            raise TakenEnd(end)

    def _refuse_loose(self, end):
        if end not in self._tied:
            raise LooseEnd(end)

    def _refuse_mark(self, name, end):
        if not is_name(name):
            raise InvalidName(name)
        self._refuse_duplicate(name)
        if len(self._marks) >= Track.MARKS:
            raise TooMany("marks", Track.MARKS)
        self._refuse_unknown(end)

    def _set_mark(self, kind, name, end):
        self._marks[name] = (kind, name, end)
        self._marked[end] = name
