"""Choosing: loops that differ from a loop in one part, and which of them are right."""

from floorward.averages import MENDS, MOST_WEIGHT, STOPS, TELLINGS, Average
from floorward.errors import BadField, BadLoop
from floorward.parts import is_word
from floorward.verdicts import is_right

FIELDS = ("a", "c", "d", "stop", "told", "mend")


def require_field(field):
    """Raise BadField for anything but the name of a field."""
    if not is_word(field, FIELDS):
        raise BadField(field)


def changed(loop, field, value):
    """Return the loop in which a field has another value, all else as it was."""
    require_field(field)
    parts = {"a": loop.a, "c": loop.c, "d": loop.d, "stop": loop.stop, "told": loop.told, "mend": loop.mend}
    parts[field] = value
    return Average(loop.k, parts["a"], parts["c"], parts["d"], parts["stop"], parts["told"], parts["mend"])


def values_of(field):
    """Return the values of a field in order; of integers all that some loop may have, and more."""
    if field == "stop":
        return list(STOPS)
    if field == "told":
        return list(TELLINGS)
    if field == "mend":
        return list(MENDS)
    return list(range(-MOST_WEIGHT, MOST_WEIGHT + 1))


def variants(loop, field):
    """Return the pairs of a value of a field and the loop with this value, where there is such a loop, in order."""
    found = []
    for value in values_of(field):
        try:
            found.append((value, changed(loop, field, value)))
        except BadLoop:
            # Not each value goes with the other parts of the loop.
            pass
    return found


def right_values(loop, field):
    """Return the values of a field, in order, with which the loop is right."""
    require_field(field)
    return [value for value, variant in variants(loop, field) if is_right(variant)]


def mends(loop):
    """Return the right loops that differ from the loop in exactly one field, in order."""
    return [variant for field in FIELDS for value, variant in variants(loop, field)
            if not variant == loop and is_right(variant)]
