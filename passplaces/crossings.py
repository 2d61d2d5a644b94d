"""Crossings: the walkers go and meet step by step, and the steps of a plan."""

from passplaces.checks import check_walker
from passplaces.errors import InvalidOrder, InvalidStep, NothingToUndo
from passplaces.plans import Plan
from passplaces.ways import is_pair, pairs_of, with_cell


class Crossing:
    """A crossing that is walked step by step."""

    def __init__(self, way):
        self._way = way
        self._right_spots = [0] * way.rights
        self._left_spots = [2 * way.places] * way.lefts
        self._cells = ((None,) * way.lefts,) * way.rights

    @property
    def way(self):
        """The way of the crossing."""
        return self._way

    @property
    def spots(self):
        """The tuple of the spots of the right walkers and that of the left walkers."""
        return (tuple(self._right_spots), tuple(self._left_spots))

    @property
    def cells(self):
        """The table of the places at which pairs have passed, with None for the others."""
        return self._cells

    @property
    def is_over(self):
        """True if all walkers are in their last rooms."""
        return min(self._right_spots) == 2 * self._way.places and max(self._left_spots) == 0

    def go_right(self, number):
        """Move a right walker to the next greater spot."""
        check_walker(number, self._way.rights)
        passed = [cell is not None for cell in self._cells[number]]
        check_move(number, self._right_spots, self._left_spots, passed, 2 * self._way.places)
        self._right_spots[number] += 1

    def go_left(self, number):
        """Move a left walker to the next lesser spot."""
        check_walker(number, self._way.lefts)
        passed = [row[number] is not None for row in self._cells]
        last = 2 * self._way.places
        # Seen from the other side, the left walker goes to the next greater spot.
        own = [last - spot for spot in self._left_spots]
        others = [last - spot for spot in self._right_spots]
        check_move(number, own, others, passed, last)
        self._left_spots[number] -= 1

    def meet(self, right, left):
        """Let a right and a left walker pass each other."""
        check_walker(right, self._way.rights)
        check_walker(left, self._way.lefts)
        spot = self._right_spots[right]
        # No room ever holds walkers of both files, so an equal spot is a place.
        if spot != self._left_spots[left]:
            raise InvalidStep("apart")
        if self._cells[right][left] is not None:
            raise InvalidStep("passed")
        place = spot // 2
        if place not in self._way.allowed(right, left):
            raise InvalidStep("place")
        self._cells = with_cell(self._cells, right, left, place)

    def run(self, *steps):
        """Check and perform some steps, one after the other."""
        for step in steps:
            if not is_step(step):
                raise InvalidStep("form")
            if step[0] == "right":
                self.go_right(step[1])
            elif step[0] == "left":
                self.go_left(step[1])
            else:
                self.meet(step[1], step[2])

    def plan(self):
        """Return the plan of the crossing if all pairs have passed."""
        for row in self._cells:
            if None in row:
                raise InvalidStep("open")
        return Plan(self._way, self._cells)


class LoggedCrossing(Crossing):
    """A crossing that keeps its steps, so that they can be undone."""

    def __init__(self, way):
        super().__init__(way)
        self._log = []

    @property
    def log(self):
        """The tuple of the steps that have been performed and not undone."""
        return tuple(self._log)

    def go_right(self, number):
        """Move a right walker to the next greater spot."""
        super().go_right(number)
        self._log.append(("right", number))

    def go_left(self, number):
        """Move a left walker to the next lesser spot."""
        super().go_left(number)
        self._log.append(("left", number))

    def meet(self, right, left):
        """Let a right and a left walker pass each other."""
        super().meet(right, left)
        self._log.append(("meet", right, left))

    def undo(self):
        """Undo the last step."""
        if len(self._log) == 0:
            raise NothingToUndo()
        step = self._log.pop()
        if step[0] == "right":
            self._right_spots[step[1]] -= 1
        elif step[0] == "left":
            self._left_spots[step[1]] += 1
        else:
            self._cells = with_cell(self._cells, step[1], step[2], None)


def check_move(number, own, others, passed, last):
    """Raise InvalidStep if a walker cannot move to the next greater spot.

    `own` and `others` are the spots of both files, `passed` tells of each
    other walker whether this one has passed it, and `last` is the last room.
    """
    here = own[number]
    ahead = here + 1
    if here == last:
        raise InvalidStep("end")
    if number > 0 and own[number - 1] < ahead:
        raise InvalidStep("file")
    facing = [spot for spot, done in zip(others, passed) if spot == here and not done]
    if len(facing) > 0 or (is_room(ahead) and ahead in others):
        raise InvalidStep("facing")
    if not is_room(ahead) and own.count(ahead) + others.count(ahead) == 2:
        raise InvalidStep("full")


def is_room(spot):
    """Return True if a spot is a room, and False if it is a place."""
    return spot % 2 == 0


def is_step(value):
    """Return True if any value has the form of a step."""
    if not isinstance(value, tuple) or len(value) == 0:
        return False
    if value[0] == "meet":
        return len(value) == 3
    return value[0] in ("right", "left") and len(value) == 2


def check_order(way, order):
    """Raise InvalidOrder if any value is not an order of the pairs."""
    if not isinstance(order, tuple) or len(order) != len(way):
        raise InvalidOrder(None)
    done = [0] * way.rights
    for index, item in enumerate(order):
        if not is_pair(way, item):
            raise InvalidOrder(index)
        right, left = item
        if left != done[right] or right not in ready_rights(way, done):
            raise InvalidOrder(index)
        done[right] += 1


def ready_rights(way, done):
    """Return a list of the right walkers whose next pairs can come next in an order, ascending.

    `done` has the number of pairs of each right walker that have come already.
    """
    found = []
    for right in range(way.rights):
        if done[right] < way.lefts and (right == 0 or done[right - 1] > done[right]):
            found.append(right)
    return found


def steps(plan, *, order=None):
    """Yield the steps of a crossing whose table is the plan, until it is over."""
    chosen = order
    if order is None:
        chosen = tuple(pairs_of(plan.way))
    check_order(plan.way, chosen)
    for step in steps_of(plan, chosen):
        yield step


def steps_of(plan, order):
    """Return a list of the steps of a crossing in which the pairs pass in the order.

    Walkers go on only for their next pair. Behind each passing they leave the
    place for the room ahead, unless their next pair passes at the same place.
    The conditions let at most one of the two stay, so nobody is in the way.
    """
    last = 2 * plan.way.places
    rights = [0] * plan.way.rights
    lefts = [last] * plan.way.lefts
    found = []
    for right, left in order:
        place = plan.place(right, left)
        spot = 2 * place + 1
        found.extend([("right", right)] * (spot - rights[right]))
        found.extend([("left", left)] * (lefts[left] - spot))
        found.append(("meet", right, left))
        rights[right] = spot
        lefts[left] = spot
        if not passes_at(plan, right, left + 1, place):
            found.append(("right", right))
            rights[right] = spot + 1
        if not passes_at(plan, right + 1, left, place):
            found.append(("left", left))
            lefts[left] = spot - 1
    for right in range(plan.way.rights):
        found.extend([("right", right)] * (last - rights[right]))
    for left in range(plan.way.lefts):
        found.extend([("left", left)] * lefts[left])
    return found


def passes_at(plan, right, left, place):
    """Return True if there are such walkers, and they pass at the place."""
    return right < plan.way.rights and left < plan.way.lefts and plan.place(right, left) == place
