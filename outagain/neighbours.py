"""Joining equal neighbours in rows that tell how often something comes."""


def join_neighbours(pairs):
    """The list of pairs (many, what) in which neighbours with the same what are one pair."""
    rows = []
    for many, what in pairs:
        if rows and rows[-1][1] == what:
            rows[-1] = (rows[-1][0] + many, what)
        else:
            rows.append((many, what))
    return rows
