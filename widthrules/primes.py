"""The primes among the numbers 2**w - 1, and the least prime factor of each of them."""

from widthrules.errors import BadWidth
from widthrules.integers import is_whole

LEAST_EXPONENT = 2
GREATEST_EXPONENT = 64


def is_mersenne(w):
    """Return whether 2**w - 1 is a prime."""
    _check_exponent(w)
    # 3 divides 2**w - 1 for every even w, and is all of it for w = 2.
    if w % 2 == 0:
        return w == 2
    return _passes_lucas_lehmer(w)


def least_factor(w):
    """Return the least prime factor of 2**w - 1."""
    # The search below takes too long where it would have to go up to 2**61 - 1 itself.
    if is_mersenne(w):
        return (1 << w) - 1
    whole = (1 << w) - 1
    factor = 3
    while whole % factor != 0:
        factor += 2
    return factor


def _check_exponent(w):
    """Raise BadWidth for any value that is no integer within the limits."""
    if not is_whole(w) or not LEAST_EXPONENT <= w <= GREATEST_EXPONENT:
        raise BadWidth("not an integer from 2 to 64")


def _passes_lucas_lehmer(w):
    """Return whether 2**w - 1 passes the test of Lucas and Lehmer, for an odd w from 3 on."""
    # For these w it passes exactly if it is a prime.
    whole = (1 << w) - 1
    found = 4
    for _ in range(w - 2):
        found = (found * found - 2) % whole
    return found == 0
