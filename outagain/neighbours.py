"""Rows of pairs (many, what) that tell how often something comes: joined and cut."""


def join_neighbours(pairs):
    """The list of pairs (many, what) in which neighbours with the same what are one pair."""
    rows = []
    for many, what in pairs:
        if rows and rows[-1][1] == what:
            rows[-1] = (rows[-1][0] + many, what)
        else:
            rows.append((many, what))
    return rows


def front_pairs(pairs, many):
    """The pairs for the first so many of what comes."""
    kept = []
    left = many
    for times, what in pairs:
        if left > 0:
            kept.append((min(times, left), what))
        left = left - times
    return kept


def rear_pairs(pairs, many):
    """The pairs for what comes behind the first so many."""
    kept = []
    left = many
    for times, what in pairs:
        if times > left:
            kept.append((times - max(0, left), what))
        left = left - times
    return kept
