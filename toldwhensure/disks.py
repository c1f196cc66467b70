"""The disk of a hall, which is written in small steps."""


class Disk:
    """The two sheets, "left" and "right", one of which is live.

    A step is a triple that tells one write: "add" a row to a side, "empty" a side, or make a side "live"; the
    last two have None in the place of the row.
    """

    def __init__(self, live, left, right):
        self.live = live
        self.sheets = {"left": list(left), "right": list(right)}

    def other(self):
        """The side that is not live."""
        return "right" if self.live == "left" else "left"

    def live_rows(self):
        """The rows of the live sheet, a tuple in their order."""
        return tuple(self.sheets[self.live])

    def now(self):
        """The disk as it is now, a triple."""
        return self.live, tuple(self.sheets["left"]), tuple(self.sheets["right"])

    def write(self, step):
        """Do one write."""
        deed, side, row = step
        if deed == "add":
            self.sheets[side].append(row)
        elif deed == "empty":
            self.sheets[side] = []
        else:
            self.live = side

    def steps_to_add(self, row):
        """The one write that adds the row to the live sheet."""
        return [("add", self.live, row)]

    def steps_to_replace(self, rows):
        """The writes after which these rows are all there is: a cut between them leaves the old or the new rows."""
        old, new = self.live, self.other()
        steps = self._steps_to_empty(new) + [("add", new, row) for row in rows]
        return steps + [("live", new, None)] + self._steps_to_empty(old)

    def _steps_to_empty(self, side):
        return [] if len(self.sheets[side]) == 0 else [("empty", side, None)]


def disks_after(disk, steps):
    """The disks after each of the writes, a tuple in order; the disk itself stays as it is."""
    written = Disk(*disk)
    found = []
    for step in steps:
        written.write(step)
        found.append(written.now())
    return tuple(found)
