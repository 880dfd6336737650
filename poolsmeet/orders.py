"""The order of pairs of ratios."""


def in_order(pairs):
    """Return a new list of the pairs in ascending order of the first ratio, then of the second."""
    # Ratios bring an order of their own, and sorted is left to plain numbers and strings.
    rows = []
    for pair in pairs:
        at = len(rows)
        while at > 0 and pair < rows[at - 1]:
            at = at - 1
        rows.insert(at, pair)
    return rows
