"""Whether rows keep guards (point 45)."""

from cutledger.schemas import places_of


def values_of(schema, names, row):
    """The values of a row in columns of its table."""
    return tuple([row[place] for place in places_of(schema, names)])


def breaking_row(schema, guard, rows, keys):
    """The first of all rows of a guard's table that breaks it, None if they keep it.

    keys has the keys of the other table; it is None if the guard names no other one.
    """
    seen = {}
    for row in rows:
        values = values_of(schema, guard[2], row)
        if keys is None and values in seen or keys is not None and values not in keys:
            return row
        seen[values] = True
    return None
