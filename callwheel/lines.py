"""Lines: a town whose boxes are pulled and wound, whose wire is cut and mended, and its ticks [14, 15]."""

from callwheel.boxes import box_behind, box_breaks, box_pulled, box_started, box_wound, new_box
from callwheel.errors import NoBox, NoDeed, NoLoop, NoStretch, NoTown
from callwheel.kinds import is_whole_within
from callwheel.tapes import BROKEN, CLOSED, KEY
from callwheel.towns import is_town, spot_of
from callwheel.wires import end_parts

# Two 1 never stand beside one another in a row, so two ticks make each running box step back.
KEY_TICKS = 2


class Line:
    """A town, its boxes, its cuts, whether it is joined, its tapes and its clock."""

    def __init__(self, town):
        if not is_town(town):
            raise NoTown("this is no town")
        loops, rounds, spring = town
        self.town = town
        self.boxes = {number: new_box(spring) for loop in loops for number in loop}
        self.cut_rows = [() for loop in loops]
        self.joined = False
        # For how many ticks to come the key is held on each loop.
        self.held = [0 for loop in loops]
        self.near_signs = [[] for loop in loops]
        self.far_signs = [[] for loop in loops]
        self.ticked = 0

    def pull(self, number):
        """Pulls a box; tells whether it had nothing to send and so now has."""
        self.check_number(number)
        box = self.boxes[number]
        self.boxes[number] = box_pulled(box, self.town[1])
        return box[0] == 0

    def wind(self, number):
        """Winds a box's spring."""
        self.check_number(number)
        self.boxes[number] = box_wound(self.boxes[number], self.town[2])

    def cut(self, loop, stretch):
        """Cuts a stretch of a loop."""
        self.check_loop(loop)
        if not is_whole_within(stretch, 0, len(self.town[0][loop])) or stretch in self.cut_rows[loop]:
            raise NoStretch("there is no such stretch, or it is cut")
        self.cut_rows[loop] = tuple(sorted(self.cut_rows[loop] + (stretch,)))
        self.hold_key(loop)

    def mend(self, loop, stretch):
        """Mends a cut stretch of a loop."""
        self.check_loop(loop)
        if not is_whole_within(stretch, 0, len(self.town[0][loop])) or stretch not in self.cut_rows[loop]:
            raise NoStretch("there is no such stretch that is cut")
        self.cut_rows[loop] = tuple(other for other in self.cut_rows[loop] if other != stretch)
        self.hold_key(loop)

    def join(self):
        """Joins all parts of wire to one."""
        if self.joined:
            raise NoDeed("the town is joined")
        self.joined = True
        self.hold_all_keys()

    def part(self):
        """Parts a joined town again."""
        if not self.joined:
            raise NoDeed("the town is not joined")
        self.joined = False
        self.hold_all_keys()

    def clear(self, loop):
        """Holds the key on a loop."""
        self.check_loop(loop)
        self.hold_key(loop)

    def tick(self):
        """One tick of all boxes and tapes; the numbers whose round came whole at it, in the order of texts."""
        started = {number: box_started(self.boxes[number]) for number in self.boxes}
        felt = self.wire_felt([number for number in started if box_breaks(started[number], number)])
        # A dumb box is on no part of wire; it feels its own wire broken.
        self.boxes = {number: box_behind(started[number], number, felt.get(number, True)) for number in started}
        self.held = [max(0, ticks - 1) for ticks in self.held]
        self.ticked += 1
        return tuple(sorted(number for number in started if self.boxes[number][0] < started[number][0]))

    def clock(self):
        """How many ticks there were."""
        return self.ticked

    def box(self, number):
        """How it stands with a box."""
        self.check_number(number)
        return self.boxes[number]

    def near_tape(self, loop):
        """The tape of a loop's near end."""
        self.check_loop(loop)
        return tuple(self.near_signs[loop])

    def far_tape(self, loop):
        """The tape of a loop's far end."""
        self.check_loop(loop)
        return tuple(self.far_signs[loop])

    def cuts(self):
        """For each loop the rising tuple of its cut stretches."""
        return tuple(self.cut_rows)

    def is_joined(self):
        """Whether the town is joined."""
        return self.joined

    def check_number(self, number):
        """Refuses what is no number of the town."""
        if spot_of(self.town, number) is None:
            raise NoBox("the town has no such box")

    def check_loop(self, loop):
        """Refuses what is no loop of the town."""
        if not is_whole_within(loop, 0, len(self.town[0]) - 1):
            raise NoLoop("the town has no such loop")

    def hold_key(self, loop):
        """Holds the key for the next ticks on a loop, of a joined town on all."""
        if self.joined:
            self.hold_all_keys()
        else:
            self.held[loop] = KEY_TICKS

    def hold_all_keys(self):
        """Holds the key for the next ticks on all loops."""
        self.held = [KEY_TICKS for loop in self.held]

    def wire_felt(self, breaking):
        """Writes a tick on all tapes; whether each box that is not dumb feels its wire broken at it."""
        felt = {}
        # In a joined town the key is held on all loops or on none, so that the one part is
        # broken alike for each loop.
        for at, (near, far) in enumerate(end_parts(self.town, self.cuts(), self.joined)):
            key = self.held[at] > 0
            near_broken = key or any(number in near for number in breaking)
            far_broken = key or any(number in far for number in breaking)
            self.near_signs[at].append(sign_of(key, near_broken))
            self.far_signs[at].append(sign_of(key, far_broken))
            felt.update({number: near_broken for number in near})
            felt.update({number: far_broken for number in far})
        return felt


def sign_of(key, broken):
    """The sign that a tape gets at a tick."""
    if key:
        return KEY
    return BROKEN if broken else CLOSED
