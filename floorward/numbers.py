"""Whole roots, and polynomials with integer coefficients."""

from floorward.errors import BadNumber, BadPower

MOST_POWER = 64


def is_int(value):
    """Tell of any object whether it is an integer (True and False are none)."""
    return isinstance(value, int) and not isinstance(value, bool)


def is_from(value, least):
    """Tell of any object whether it is an integer from least on."""
    return is_int(value) and value >= least


def is_within(value, least, greatest):
    """Tell of any object whether it is an integer from least to greatest."""
    return is_int(value) and least <= value <= greatest


def require_number(n):
    """Raise BadNumber for anything but an integer from 0 on."""
    if not is_from(n, 0):
        raise BadNumber(n)


def power(base, k):
    """Return the product of k factors base, for k from 0 on."""
    if k == 0:
        return 1
    half = power(base, k // 2)
    return half * half * base if k & 1 else half * half


def root(n, k):
    """Return the greatest integer r whose k-th power is at most n."""
    require_number(n)
    if not is_within(k, 1, MOST_POWER):
        raise BadPower(k)
    return floor_root(n, k)


def rest(n, k):
    """Return what n has beyond the k-th power of its root."""
    return n - power(root(n, k), k)


def floor_root(n, k):
    """Return the root of a number, both known to be so."""
    behind = n.bit_length() // (2 * k)
    if behind == 0:
        return small_root(n, k)
    # The root of the upper half of the figures, one up, is above the root, and so near that few steps remain.
    guess = (floor_root(n >> (behind * k), k) + 1) << behind
    lower = newton_step(n, k, guess)
    while lower < guess:
        guess = lower
        lower = newton_step(n, k, guess)
    return guess


def small_root(n, k):
    """Return the root of a number by counting up."""
    found = 0
    while power(found + 1, k) <= n:
        found += 1
    return found


def newton_step(n, k, guess):
    """Return the guess behind a guess; from above the root it never passes the root."""
    return ((k - 1) * guess + n // power(guess, k - 1)) // k


def trimmed(coefficients):
    """Return the polynomial of coefficients that may end in noughts."""
    size = len(coefficients)
    while size > 0 and coefficients[size - 1] == 0:
        size -= 1
    return tuple(coefficients[:size])


def poly_value(poly, r):
    """Return the value of a polynomial at r."""
    total = 0
    for coefficient in reversed(poly):
        total = total * r + coefficient
    return total


def poly_sum(one, other):
    """Return the sum of two polynomials."""
    total = [0] * max(len(one), len(other))
    for poly in (one, other):
        for at, coefficient in enumerate(poly):
            total[at] += coefficient
    return trimmed(total)


def poly_product(one, other):
    """Return the product of two polynomials."""
    product = [0] * (len(one) + len(other))
    for at, factor in enumerate(one):
        for beside, coefficient in enumerate(other):
            product[at + beside] += factor * coefficient
    return trimmed(product)


def poly_shift(poly, by):
    """Return the polynomial whose value at r is that of poly at r + by."""
    shifted = ()
    for coefficient in reversed(poly):
        shifted = poly_sum(poly_product(shifted, (by, 1)), (coefficient,))
    return shifted


def poly_minus(one, other):
    """Return the first polynomial less the second one."""
    return poly_sum(one, [-coefficient for coefficient in other])


def poly_difference(poly):
    """Return the polynomial of what a polynomial rises from r to r + 1."""
    return poly_minus(poly_shift(poly, 1), poly)


def sign_of(value):
    """Return 1, 0 or -1 for an integer above 0, for 0, below 0."""
    if value > 0:
        return 1
    return -1 if value < 0 else 0


def zero_bound(poly):
    """Return an integer from which on, and from whose negative down, a polynomial has no zero."""
    return 1 + max([abs(coefficient) for coefficient in poly], default=0)


def sign_from(poly, first):
    """Return the sign that a polynomial has at all integers from first on, or None."""
    plain = trimmed(poly)
    # Further down than the bound there is no other sign: a far first would only make the search long.
    begin = max(first, -zero_bound(plain))
    if turnings(plain, begin):
        return None
    return sign_of(poly_value(plain, begin))


def turnings(poly, first):
    """Return the integers r above first, ascending, at which a trimmed polynomial has not the sign it has at r - 1."""
    if len(poly) < 2:
        return []
    # Between the turnings of its difference a polynomial only rises or only falls: there halving finds its own.
    marks = [first] + turnings(poly_difference(poly), first)
    marks.append(max(marks[-1], zero_bound(poly)))
    found = []
    for begin, end in zip(marks, marks[1:]):
        at = turning_between(poly, begin, end)
        while at is not None:
            found.append(at)
            at = turning_between(poly, at, end)
    return found


def turning_between(poly, begin, end):
    """Return the first turning above begin, up to end, of a polynomial that only rises or only falls there, or None."""
    sign = sign_of(poly_value(poly, begin))
    if sign_of(poly_value(poly, end)) == sign:
        return None
    low = begin
    high = end
    while high - low > 1:
        middle = (low + high) // 2
        if sign_of(poly_value(poly, middle)) == sign:
            low = middle
        else:
            high = middle
    return high


def settled_from(poly, first):
    """Return the least integer from first on from which on a trimmed polynomial keeps its sign."""
    return max([first] + turnings(poly, first))


def never_below_from(poly, first):
    """Return the least integer from first on from which on a trimmed polynomial is never below 0, or None."""
    if poly and poly[-1] < 0:
        return None
    for at in reversed(turnings(poly, first)):
        if poly_value(poly, at - 1) < 0:
            return at
    return first
