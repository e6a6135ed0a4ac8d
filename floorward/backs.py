"""Backwards: from which starts a loop tells the root, and with which weights its guesses come."""

from floorward.averages import is_loop_power, next_guess, possible_weights, require_start, walk
from floorward.errors import BadGuesses, BadPower
from floorward.numbers import is_from, power, require_number, root
from floorward.parts import is_row


def right_starts(loop, n, most):
    """Return the stretches (first, last) of starts from 1 to most from which the run for n tells the root."""
    require_number(n)
    require_start(most)
    floor = root(n, loop.k)
    found = []
    for start in range(1, most + 1):
        if walk(loop, floor, lambda x: next_guess(loop, n, x), start).told != floor:
            continue
        if found and found[-1][1] == start - 1:
            found[-1] = (found[-1][0], start)
        else:
            found.append((start, start))
    return found


def require_guesses(guesses):
    """Raise BadGuesses for anything but a list or a tuple of at least two integers from 1 on."""
    if not is_row(guesses) or len(guesses) < 2 or not all([is_from(guess, 1) for guess in guesses]):
        raise BadGuesses()


def told_back(k, n, guesses):
    """Return the weights, each with its least and greatest d, with which each guess leads to the next one."""
    if not is_loop_power(k):
        raise BadPower(k)
    require_number(n)
    require_guesses(guesses)
    quotients = [n // power(x, k - 1) for x in guesses[:-1]]
    found = []
    for a, c in possible_weights(k):
        # The step leads to y exactly if d is from what y * (a + c) lacks on, and below that by a + c - 1 at most.
        lacks = [(a + c) * y - a * x - c * quotient for x, y, quotient in zip(guesses, guesses[1:], quotients)]
        least = max(-a, max(lacks))
        greatest = min(a + c, min(lacks) + a + c - 1)
        if least <= greatest:
            found.append((a, c, least, greatest))
    return found
