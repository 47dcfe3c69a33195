"""The cases in which each rule holds and the numbers that break it, as the document lists them."""

from samples import bounds

PRIME_WIDTHS = (5, 7, 13, 17, 19, 31, 61)

# For each rule the cases of point 8: the words that a format has, or "prime" for its width.
HOLDING = {
    "sum grouping": ("wrap", "unsigned"),
    "product grouping": ("wrap", "saturate symmetric", "saturate unsigned"),
    "distribution": ("wrap", "saturate unsigned"),
    "double negation": ("symmetric", "wrap"),
    "difference": ("symmetric", "wrap"),
    "add back": ("wrap",),
    "division": (
        "wrap", "symmetric zero", "unsigned floor", "unsigned zero", "unsigned euclid",
    ),
    "remainder range": ("euclid", "unsigned floor", "unsigned zero", "unsigned saturate"),
    "negated quotient": (
        "symmetric zero", "symmetric even", "unsigned saturate", "unsigned trap ceiling",
    ),
    "shift": ("floor", "euclid", "unsigned zero"),
    "absolute value": ("symmetric", "unsigned", "saturate"),
    "order by difference": ("saturate symmetric", "saturate twos"),
    "monotone sum": ("saturate",),
    "average": ("unsigned", "saturate"),
    "square": ("saturate", "unsigned wrap"),
    "zero product": ("saturate", "trap", "symmetric prime"),
    "cancellation": ("wrap symmetric prime",),
}

# For each rule the numbers of point 9, in expressions over L, M, H, p, n and w: the first case
# of which a format has all the words counts; "odd" and "even width" tell of the width.
BREAKING = {
    "sum grouping": (("", "(M, 1, -1)"),),
    "product grouping": (("trap", "(M, 2, 0)"), ("saturate", "(L, -1, -1)")),
    "distribution": (("trap", "(0, M, 1)"), ("saturate", "(2, M, -1)")),
    "double negation": (("twos", "(L,)"), ("unsigned", "(1,)")),
    "difference": (("twos", "(-1, L)"), ("unsigned", "(1, 1)")),
    "add back": (("", "(L, 1)"),),
    "division": (
        ("twos", "(L, -1)"),
        ("symmetric floor", "(L, 2)"), ("symmetric euclid", "(L, 2)"),
        ("symmetric ceiling", "(M, 2)"), ("symmetric even", "(M, 2)"),
        ("unsigned ceiling", "(1, 2)"), ("unsigned even", "(3, 2)"),
    ),
    "remainder range": (
        ("floor", "(1, -2)"), ("zero", "(-1, 2)"), ("ceiling", "(1, 2)"), ("even", "(3, 2)"),
    ),
    "negated quotient": (
        ("symmetric", "(1, 2)"), ("unsigned", "(1, 2)"),
        ("twos saturate ceiling", "(1, 2)"),
        ("twos saturate even even-width", "(L, n // 3)"),
        ("twos saturate even odd-width", "(L, 2**((w + 1) // 2) - 2)"),
        ("twos", "(L, 2)"),
    ),
    "shift": (("zero", "(-1,)"), ("ceiling", "(1,)"), ("even", "(3,)")),
    "absolute value": (("", "(L,)"),),
    "order by difference": (("", "(L, 1)"),),
    "monotone sum": (("", "(M - 1, M, 1)"),),
    "average": (("", "(L, 1)"),),
    "square": (
        ("trap", "(M,)"), ("even-width", "(2**(w // 2) - 1,)"), ("odd-width", "(2**(w // 2),)"),
    ),
    "zero product": (("twos", "(2, L)"), ("unsigned", "(2, H)"), ("symmetric", "(p, n // p)")),
    "cancellation": (
        ("saturate", "(2, M, M - 1)"), ("trap", "(2, M, M - 1)"),
        ("wrap twos", "(2, 0, L)"), ("wrap unsigned", "(2, 0, H)"),
        ("wrap symmetric", "(p, 0, n // p)"),
    ),
}


def words_of(form):
    """Return the words by which a case tells of a format."""
    width = form[0]
    words = set(form[1:])
    words.add("odd-width" if width % 2 else "even-width")
    if width in PRIME_WIDTHS:
        words.add("prime")
    return words


def holds_by_the_document(form, rule):
    """Return whether one of the document's cases is that of a format."""
    words = words_of(form)
    return any(words.issuperset(case.split()) for case in HOLDING[rule])


def numbers_by_the_document(form, rule):
    """Return the numbers that the document names for a format in which a rule does not hold."""
    words = words_of(form)
    told = next(told for case, told in BREAKING[rule] if words.issuperset(case.split()))
    width = form[0]
    low, high = bounds(form)
    whole = 2 ** width - 1
    known = {"L": low, "M": high, "H": 2 ** (width - 1), "n": whole, "w": width}
    if "p" in told:
        known["p"] = next(p for p in range(2, whole + 1) if whole % p == 0)
    return eval(told, known)


def profile_by_the_document(form):
    """Return the rules, in the document's order, of which one case is that of a format."""
    return tuple(rule for rule in HOLDING if holds_by_the_document(form, rule))
