"""What a work has looked at, and what another one has done there (point 47)."""

from cutledger.guards import values_of
from cutledger.schemas import is_name, kinds_of
from cutledger.tables import bound_key
from cutledger.trees import is_within


class Span:
    """All rows of a table whose values in some columns are not below low and below high."""

    def __init__(self, schema, names, low, high):
        self.schema = schema
        self.names = names
        kinds = kinds_of(schema, names)
        self.low = bound_key(kinds, low)
        self.high = bound_key(kinds, high)

    def holds(self, schema, row):
        """Whether a row of a table with a schema lies here."""
        if schema != self.schema:
            return False
        kinds = kinds_of(schema, self.names)
        return is_within(bound_key(kinds, values_of(schema, self.names, row)), self.low, self.high)


def span_of_key(schema, key):
    """The span of one key."""
    span = Span(schema, key_names(schema), key, key)
    # No tuple lies between the bytes of the key and these.
    span.high = (*span.low, 0)
    return span


def key_names(schema):
    """The names of the columns of the key."""
    return tuple([pair[0] for pair in schema[1][:schema[2]]])


class Looks:
    """The names that a work has used, the spans where it has looked, and whether it has looked at all names."""

    def __init__(self):
        self.used_names = {}
        self.spans = []
        self.is_all_looked_at = False

    def use(self, names):
        """Have used those of some values that are names."""
        for name in names:
            if is_name(name):
                self.used_names[name] = True

    def met_by(self, effect):
        """The names that tell where what a commit has done meets what was looked at."""
        met = [name for name in effect.names if self.is_all_looked_at or name in self.used_names]
        for schema, row in effect.rows_touched:
            if any(span.holds(schema, row) for span in self.spans):
                met.append(schema[0])
        return met


class Effect:
    """What a commit has done: the names that it made or removed, and the rows that became others."""

    def __init__(self, ledger):
        self.names = list(ledger.named)
        self.rows_touched = ledger.touched_rows()
