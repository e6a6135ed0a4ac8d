"""The loops that texts tell."""

from floorward.averages import Average
from floorward.errors import BadLoop, BadText
from floorward.halves import Halves
from floorward.steps import Steps


def read_loop(text):
    """Return the loop with a text."""
    words = text.split(" ")
    try:
        return made_loop(words[0], parts_of(words[1:]))
    except BadLoop:
        raise BadText() from None


def parts_of(words):
    """Return the words, with integers in the place of those that write an integer as texts do."""
    # All integers of loops are this small. So each has one way to be written, and no long word is worked out.
    written = {str(value): value for value in range(-9, 10)}
    return [written.get(word, word) for word in words]


def made_loop(name, parts):
    """Return the loop with a name and parts, whatever words they are."""
    if name == "average" and len(parts) == 7:
        return Average(*parts)
    if name == "halves" and len(parts) == 7:
        return Halves(*parts)
    if name == "steps" and len(parts) == 4:
        return Steps(*parts)
    raise BadText()
