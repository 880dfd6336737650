"""A desk: a ground that is asked and changed by commands."""

from poolsmeet.errors import InvalidCommand, InvalidNumber
from poolsmeet.grounds import Ground, Ring, Trough
from poolsmeet.ratios import Ratio


class Desk:
    """A ground, and the commands that change it, ask about it, or put another one in its place."""

    def __init__(self):
        self.ground = Ground()

    def say(self, command):
        """Carry out the command and return the answer."""
        word, *texts = command.split(" ")
        if not is_form(word, len(texts)):
            raise InvalidCommand()
        numbers = read_numbers(texts)
        if word in MAKERS:
            maker = MAKERS[word]
            self.ground = maker(*numbers)
            return word
        answer = ANSWERS[word]
        return answer(self.ground, *numbers)

    def __len__(self):
        return len(self.ground)


def is_form(word, many):
    """Tell whether a command may have this first word and so many words behind it."""
    if word == "try":
        return many > 0 and many % 2 == 0
    return word in COUNTS and COUNTS[word] == many


def read_numbers(texts):
    """Return the numbers whose texts these are."""
    try:
        return [Ratio.read(text) for text in texts]
    except InvalidNumber:
        raise InvalidCommand() from None


def new_line():
    """Return a new line."""
    return Ground()


def new_trough(left, right):
    """Return a new trough."""
    return Trough(left, right)


def new_ring(length):
    """Return a new ring."""
    return Ring(length)


def pour_drop(ground, spot, volume):
    """Pour a drop and return the number of drops."""
    ground.pour(spot, volume)
    return str(len(ground))


def take_drop(ground, spot, volume):
    """Take a drop and return the number of drops."""
    ground.take(spot, volume)
    return str(len(ground))


def undo_change(ground):
    """Take back the last change and tell whether there was one."""
    return "undone" if ground.undo() else "nothing"


def show_volume(ground):
    """Return the volume."""
    return str(ground.volume)


def show_dry(ground):
    """Return the dry length."""
    length = ground.dry()
    return "endless" if length is None else str(length)


def show_wet(ground, spot):
    """Tell whether the spot is wet."""
    return "yes" if ground.is_wet(spot) else "no"


def show_stretches(ground):
    """Return the stretches."""
    if not ground.stretches():
        return "none"
    return " , ".join([f"{left} {right}" for left, right in ground.stretches()])


def try_drops(ground, *numbers):
    """Return the stretches that there are after drops were poured, which are taken back then."""
    with ground.trial():
        for spot, volume in zip(numbers[::2], numbers[1::2]):
            ground.pour(spot, volume)
        return show_stretches(ground)


# How many numbers stand behind the first word. There may be any number of pairs behind "try".
COUNTS = {
    "line": 0, "trough": 2, "ring": 1, "pour": 2, "take": 2, "undo": 0, "volume": 0, "dry": 0, "wet": 1, "show": 0,
}

MAKERS = {"line": new_line, "trough": new_trough, "ring": new_ring}

ANSWERS = {
    "pour": pour_drop, "take": take_drop, "undo": undo_change, "volume": show_volume, "dry": show_dry,
    "wet": show_wet, "show": show_stretches, "try": try_drops,
}
