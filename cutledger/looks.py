"""What a work has looked at, and what another one has done there (point 47)."""

from cutledger.guards import values_of
from cutledger.schemas import is_name, key_kinds, kinds_of, places_of
from cutledger.tables import bound_key, key_of
from cutledger.trees import is_within


class Span:
    """All rows of a table whose key is not below low and below high, or whose values in the columns of an index are.

    names has the columns of the index; it is None for the key.
    """

    def __init__(self, schema, names, low, high):
        self.table = schema[0]
        self.names = names
        self.kinds = key_kinds(schema) if names is None else kinds_of(schema, names)
        self.low = bound_key(self.kinds, low)
        self.high = bound_key(self.kinds, high)

    def place_in(self, schema, row):
        """The bytes that tell where a row of the table lies here, None if it lies nowhere.

        The work may have made the table anew, so what a row has need not be what was looked at.
        """
        if self.names is None:
            return key_of(schema, row)
        if None in places_of(schema, self.names) or kinds_of(schema, self.names) != self.kinds:
            return None
        return bound_key(self.kinds, values_of(schema, self.names, row))

    def holds(self, schema, row):
        """Whether a row of a table with a schema lies here."""
        if schema[0] != self.table:
            return False
        place = self.place_in(schema, row)
        return place is not None and is_within(place, self.low, self.high)


def span_of_key(schema, key):
    """The span of one key."""
    span = Span(schema, None, key, key)
    # No tuple lies between the bytes of the key and these.
    span.high = (*span.low, 0)
    return span


class Looks:
    """The names that a work has used, the spans where it has looked, and whether it has looked at all names."""

    def __init__(self):
        self.used_names = {}
        self.spans = []
        self.is_all_looked_at = False

    def use(self, names):
        """Have used those of some values that are names."""
        for name in names:
            if is_name(name):
                self.used_names[name] = True

    def met_by(self, effect):
        """The names that tell where what a commit has done meets what was looked at."""
        met = [name for name in effect.names if self.is_all_looked_at or name in self.used_names]
        for schema, row in effect.rows_touched:
            if any(span.holds(schema, row) for span in self.spans):
                met.append(schema[0])
        return met


class Effect:
    """What a commit has done: the names that it made or removed, and the rows that became others."""

    def __init__(self, ledger):
        self.names = list(ledger.named)
        self.rows_touched = ledger.touched_rows()
