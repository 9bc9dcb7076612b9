"""A row with slips gone through as [14] tells it, to compare with."""


class SlowRow:
    """Slips in lists of lists; a breath looks at each bellows in its order."""

    def __init__(self, rooms):
        self.rooms = tuple(rooms)
        self.slips = [[] for _ in rooms]
        self.sealed = set()
        self.heard = {"left": [], "right": []}

    def breathe(self, breath, slip=None):
        order = range(len(self.rooms)) if breath[0] == "L" else range(len(self.rooms) - 1, -1, -1)
        for at in order:
            here = self.slips[at]
            if at in self.sealed:
                continue
            if breath[1] == "+" and len(here) < self.rooms[at]:
                self.slips[at] = [slip] + here if breath[0] == "L" else here + [slip]
                return at
            if breath[1] == "-" and here:
                self.slips[at] = here[1:] if breath[0] == "L" else here[:-1]
                return here[0] if breath[0] == "L" else here[-1]
        self.heard["right" if breath[0] == "L" else "left"].append(slip if breath[1] == "+" else None)
        return None

    def saw(self, other, gap):
        for at in range(gap, len(self.rooms)):
            self.slips[at], other.slips[at] = other.slips[at], self.slips[at]
            mine, its = at in self.sealed, at in other.sealed
            for row, is_so in ((self, its), (other, mine)):
                row.sealed.discard(at)
                if is_so:
                    row.sealed.add(at)

    def everything(self):
        """All that a Row that went through the same tells, as everything of a Row does."""
        parts = ["%d/%d" % (len(here), room) for here, room in zip(self.slips, self.rooms)]
        parts = ["[" + part + "]" if at in self.sealed else part for at, part in enumerate(parts)]
        standing = tuple(len(here) for here in self.slips)
        return [self.rooms, self.slips, standing, self.heard["left"], self.heard["right"], sorted(self.sealed),
                sum(standing), "(" + " ".join(parts) + ")"]


def everything(row):
    """All that a Row tells."""
    return [row.rooms(), row.lies(), row.standing(), row.heard_at("left"), row.heard_at("right"), row.sealed(),
            len(row), str(row)]
