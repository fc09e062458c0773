"""A line that is filled as things come, and from which they can be taken back."""

from keepaway.errors import Bare
from keepaway.wishes import check_apart


class Line:
    def __init__(self, apart):
        check_apart(apart)
        self.apart = apart
        # The kinds in the order in which they came, the kind at each place
        # that is not empty, and the places of each kind from the eldest on.
        self.came = []
        self.held = {}
        self.spots = {}

    def put(self, kind):
        elder = self.last(kind)
        # The elder one stands behind all others of its kind, so no place
        # from here on has one of them behind it.
        place = 0 if elder is None else elder + self.apart + 1
        while place in self.held:
            place += 1
        self.came.append(kind)
        self.held[place] = kind
        self.spots.setdefault(kind, []).append(place)
        return place

    def row(self):
        length = max(self.held, default=-1) + 1
        return [self.held.get(place) for place in range(length)]

    def last(self, kind):
        spots = self.spots.get(kind, [])
        return spots[-1] if len(spots) > 0 else None

    def back(self):
        if len(self.came) == 0:
            raise Bare("the line has no thing to take back")
        kind = self.came.pop()
        place = self.spots[kind].pop()
        self.held.pop(place)
        return (kind, place)
