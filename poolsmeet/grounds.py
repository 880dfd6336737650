"""Grounds that keep a rain which changes: a line, a trough and a ring; and trials, which take changes back."""

from poolsmeet.blocks import covers_in_trough, covers_on_line, covers_on_ring, is_covered
from poolsmeet.errors import Full, InvalidNumber, MissingDrop, OutOfGround, Overfull, TrialError
from poolsmeet.rains import Rain
from poolsmeet.ratios import Ratio
from poolsmeet.steady import joined_from


class Stand:
    """What a ground holds after a change, and the stand before this change.

    Only the stretches are noted later, when they are first asked for. So a ground may go back to any stand it had.
    """

    def __init__(self, fallen, total, change, before):
        self.fallen = fallen
        self.total = total
        self.change = change
        self.before = before
        self.found = None


class Ground:
    """An endless line with a rain that changes."""

    def __init__(self):
        self.stand = Stand((), Ratio(0), None, None)

    @classmethod
    def filled(cls, rain):
        """Return a new line into which the drops of the rain were poured."""
        ground = cls()
        pour_all(ground, rain)
        return ground

    def pour(self, spot, volume):
        """Add a drop."""
        check_volume(volume)
        check_limit(self.stand)
        self.stand = poured(self.stand, spot, volume)

    def take(self, spot, volume):
        """Remove a drop."""
        self.stand = taken(self.stand, spot, volume)

    def rain(self):
        """Return the rain."""
        return Rain(self.stand.fallen)

    @property
    def volume(self):
        """The volume of the rain."""
        return self.stand.total

    def stretches(self):
        """Return the covers of the pools, from the left, as pairs of ends."""
        stand = self.stand
        if stand.found is None:
            stand.found = covers_on_line(stand.fallen)
        return stand.found

    def is_wet(self, spot):
        """Tell whether a pool covers the spot."""
        return is_covered(spot, self.stretches())

    def dry(self):
        """Return None: there is no length to the dry ground of an endless line."""
        return None

    def undo(self):
        """Take back the last change, and tell whether there was one."""
        if self.stand.before is None:
            return False
        self.stand = self.stand.before
        return True

    def changes(self):
        """Return a new list of the changes that are not taken back, in order."""
        found = []
        stand = self.stand
        while stand.before is not None:
            found.append(stand.change)
            stand = stand.before
        return found[::-1]

    def trial(self):
        """Return a trial of changes, for a with statement."""
        return Trial(self)

    def __len__(self):
        return len(self.stand.fallen)

    def __repr__(self):
        return f"Ground({len(self)})"


class Trough(Ground):
    """A ground between two walls with a rain that changes."""

    def __init__(self, left, right):
        if right <= left:
            raise InvalidNumber(right)
        Ground.__init__(self)
        self.low = Ratio.of(left)
        self.high = Ratio.of(right)

    @classmethod
    def filled(cls, left, right, rain):
        """Return a new trough into which the drops of the rain were poured."""
        ground = cls(left, right)
        pour_all(ground, rain)
        return ground

    def pour(self, spot, volume):
        """Add a drop."""
        check_volume(volume)
        check_spot(self, spot)
        check_limit(self.stand)
        total = self.volume + volume
        if total > self.high - self.low:
            raise Overfull(total)
        self.stand = poured(self.stand, spot, volume)

    def stretches(self):
        """Return the covers of the pools, from the left, as pairs of ends."""
        stand = self.stand
        if stand.found is None:
            stand.found = covers_in_trough(stand.fallen, self.low, self.high)
        return stand.found

    def is_wet(self, spot):
        """Tell whether a pool covers the spot, which is between the walls."""
        check_spot(self, spot)
        return is_covered(spot, self.stretches())

    def dry(self):
        """Return the length of the ground that no pool covers."""
        return self.high - self.low - self.volume

    def __repr__(self):
        return f"Trough({len(self)})"


class Ring(Ground):
    """A ground that is a ring with a rain that changes."""

    def __init__(self, length):
        if length <= 0:
            raise InvalidNumber(length)
        Ground.__init__(self)
        self.length = Ratio.of(length)

    @classmethod
    def filled(cls, length, rain):
        """Return a new ring into which the drops of the rain were poured."""
        ground = cls(length)
        pour_all(ground, rain)
        return ground

    @staticmethod
    def turned(spot, length):
        """Return the remainder of the spot by the length."""
        return Ratio.of(spot) % length

    def pour(self, spot, volume):
        """Add a drop."""
        check_volume(volume)
        check_limit(self.stand)
        self.stand = poured(self.stand, Ring.turned(spot, self.length), volume)

    def take(self, spot, volume):
        """Remove a drop."""
        self.stand = taken(self.stand, Ring.turned(spot, self.length), volume)

    def stretches(self):
        """Return the covers of the pools as pairs of ends, in ascending order of the left ends."""
        stand = self.stand
        if stand.found is None:
            flooded = stand.total >= self.length
            stand.found = ((Ratio(0), self.length),) if flooded else covers_on_ring(stand.fallen, self.length)
        return stand.found

    def is_wet(self, spot):
        """Tell whether a pool covers the spot."""
        place = Ring.turned(spot, self.length)
        stretches = self.stretches()
        return is_covered(place, stretches) or is_covered(place + self.length, stretches)

    def dry(self):
        """Return the length of the ground that no pool covers."""
        if self.volume >= self.length:
            return Ratio(0)
        return self.length - self.volume

    def __repr__(self):
        return f"Ring({len(self)})"


class Trial:
    """Changes of a ground that are taken back when their block ends, unless they are kept."""

    def __init__(self, ground):
        self.ground = ground
        self.stand = None
        # What the ground takes its stand from when the block ends: the trial, or once it is kept the ground itself.
        self.source = self
        self.is_entered = False
        self.is_open = False

    def __enter__(self):
        if self.is_entered:
            raise TrialError()
        self.is_entered = True
        self.is_open = True
        self.stand = self.ground.stand
        return self

    def __exit__(self, kind, value, trace):
        ground = self.ground
        ground.stand = self.source.stand
        self.is_open = False

    def keep(self):
        """Let the changes stand when the block ends."""
        if not self.is_open:
            raise TrialError()
        self.source = self.ground


def within(trial, deed):
    """Enter the trial, call the function with it in its block, and return the result."""
    with trial as held:
        return deed(held)


def attempt(ground, steps):
    """Make the steps one after another and return a list of what each of them gives."""
    return made_steps(ground, steps, [])


def made_steps(ground, steps, trials):
    """Make the steps in the blocks of the trials, the innermost last, and return a list of what each gives."""
    made = []
    for step in steps:
        made.append(made_step(ground, step, trials))
    return made


def made_step(ground, step, trials):
    """Make one step in the blocks of the trials, and return what it gives."""
    word, *details = step
    if word == "trial":
        return made_trial(ground, details, trials)
    if word == "joined":
        one, other = details
        return joined_from(ground.rain(), one, other)
    if word == "keep":
        keep_one(trials, details[0])
    else:
        deed = DEEDS[word]
        deed(ground, *details)
    return ground.stretches()


def made_trial(ground, details, trials):
    """Make the steps of a trial in its block, and return what they give, the stretches, and when it was open."""
    kept, steps = details
    trial = ground.trial()
    before = trial.is_open
    with trial:
        if kept in ("first", "both"):
            trial.keep()
        made = made_steps(ground, steps, [*trials, trial])
        if kept in ("last", "both"):
            trial.keep()
        inside = trial.is_open
    return made, ground.stretches(), (before, inside, trial.is_open)


def keep_one(trials, out):
    """Keep the trial that is so many blocks outside of the innermost one."""
    if out >= len(trials):
        raise TrialError()
    trials[len(trials) - 1 - out].keep()


def pour_step(ground, spot, volume):
    """Pour a drop."""
    ground.pour(spot, volume)


def take_step(ground, spot, volume):
    """Take a drop."""
    ground.take(spot, volume)


def undo_step(ground):
    """Take back the last change."""
    ground.undo()


def late_step(ground):
    """Keep a trial whose block has ended."""
    with ground.trial() as trial:
        pass
    trial.keep()


def again_step(ground):
    """Enter a trial whose block has ended."""
    with ground.trial() as trial:
        pass
    with trial:
        pass


DEEDS = {"pour": pour_step, "take": take_step, "undo": undo_step, "late": late_step, "again": again_step}


def pour_all(ground, rain):
    """Pour the drops of the rain, in order."""
    for spot, volume in rain.drops:
        ground.pour(spot, volume)


def check_volume(volume):
    """Raise InvalidNumber if the volume is not positive."""
    if volume <= 0:
        raise InvalidNumber(volume)


def check_spot(trough, spot):
    """Raise OutOfGround if the spot is not between the walls."""
    if spot < trough.low or spot > trough.high:
        raise OutOfGround(spot)


def check_limit(stand):
    """Raise Full if there is no room for one more drop."""
    if len(stand.fallen) >= Rain.LIMIT:
        raise Full(Rain.LIMIT)


def poured(stand, spot, volume):
    """Return the stand after a drop was added."""
    drop = Ratio.of(spot), Ratio.of(volume)
    return Stand((*stand.fallen, drop), stand.total + volume, ("pour", *drop), stand)


def taken(stand, spot, volume):
    """Return the stand after a drop was removed."""
    drop = Ratio.of(spot), Ratio.of(volume)
    if drop not in stand.fallen:
        raise MissingDrop(spot, volume)
    rest = list(stand.fallen)
    rest.remove(drop)
    return Stand(tuple(rest), stand.total - volume, ("take", *drop), stand)
