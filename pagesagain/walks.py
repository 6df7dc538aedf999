"""Walks: the first rows of deeds that lead from a thing to others."""


def first_walks(start, follow, most=None):
    """By thing to which rows lead the first one, the first such row, in the order of these rows.

    `follow` tells by deed the things to which it leads a thing, None where it leads to none. Behind the first one
    above `most` things no more are looked for.
    """
    rows = {start: ()}
    layer = [start]
    while layer:
        fresh = []
        for thing in layer:
            row = rows[thing]
            for deed, then in enumerate(follow(thing)):
                if then is not None and then not in rows:
                    rows[then] = row + (deed,)
                    fresh.append(then)
                    if most is not None and len(rows) > most:
                        return rows
        layer = fresh
    return rows
