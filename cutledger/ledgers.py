"""What calls of tables make of all that a base holds, told without its pages (points 47 and 55)."""

from cutledger.guards import breaking_row

MAKE = "make"
MAKE_INDEX = "make index"
MAKE_GUARD = "make guard"
REMOVE = "remove"
PUT = "put"
DROP = "drop"


def do_again(tables, call):
    """Do a call of a work once more, upon other tables."""
    word = call[0]
    if word == MAKE:
        tables.make(call[1])
    elif word == MAKE_INDEX:
        tables.make_index(call[1])
    elif word == MAKE_GUARD:
        tables.make_guard(call[1])
    elif word == REMOVE:
        tables.remove(call[1])
    elif word == PUT:
        tables.put(call[1], call[2])
    else:
        tables.drop(call[1], call[2])


class Ledger:
    """All schemas, indexes, guards and rows of a base in dicts, and what calls have made of them.

    begun_names has all names ahead of the calls, such that each may be taken away alone in this order; named has
    the names that were made or removed, and before each row that was put or dropped as it was ahead of all calls,
    by table and key.
    """

    def __init__(self, tables):
        self.schema_with = {schema[0]: schema for schema in tables.schemas()}
        self.index_with = {index[0]: index for index in tables.indexes()}
        self.guard_with = {guard[0]: guard for guard in tables.guards()}
        self.begun_names = [*self.guard_with, *self.index_with, *self.schema_with]
        self.rows_in = {}
        for name in self.schema_with:
            many = self.schema_with[name][2]
            self.rows_in[name] = {row[:many]: row for row in tables.rows(name, None, None)}
        self.named = []
        self.before = {}

    def take_in(self, call):
        """Let a call of a work be done."""
        word = call[0]
        if word in (PUT, DROP):
            self.take_in_row(word, call[1], call[2])
        elif word == REMOVE:
            self.take_away(call[1])
        else:
            made = call[1]
            self.named.append(made[0])
            if word == MAKE:
                self.schema_with[made[0]] = made
                self.rows_in[made[0]] = {}
            elif word == MAKE_INDEX:
                self.index_with[made[0]] = made
            else:
                self.guard_with[made[0]] = made

    def take_in_row(self, word, table, value):
        """Let a row be put, or the one with a key be dropped."""
        rows = self.rows_in[table]
        key = value[:self.schema_with[table][2]]
        if (table, key) not in self.before:
            self.before[(table, key)] = rows.get(key)
        if word == PUT:
            rows[key] = value
        else:
            rows.pop(key, None)

    def take_away(self, name):
        """Take away a table, with its indexes and the guards that name it, or an index, or a guard."""
        indexes = [index[0] for index in list(self.index_with.values()) if name in index[:2]]
        guards = [guard[0] for guard in list(self.guard_with.values()) if name in (guard[0], guard[1], guard[3])]
        for index in indexes:
            self.index_with.pop(index)
        for guard in guards:
            self.guard_with.pop(guard)
        if name in self.schema_with:
            self.schema_with.pop(name)
            self.rows_in.pop(name)
            self.named.append(name)
        self.named.extend(indexes)
        self.named.extend(guards)

    def first_broken(self):
        """The first name, by the alphabet, of a guard that the rows don't keep, None if they keep all."""
        for name in sorted(self.guard_with):
            guard = self.guard_with[name]
            rows = list(self.rows_in[guard[1]].values())
            keys = None if guard[3] is None else self.rows_in[guard[3]]
            if breaking_row(self.schema_with[guard[1]], guard, rows, keys) is not None:
                return name
        return None

    def changes(self):
        """The tuples of table, key, old row and new row of all rows that have become others, None for no row.

        Those of tables that were made or removed are not among them.
        """
        found = []
        for table, key in sorted([pair for pair in self.before if pair[0] not in self.named]):
            old = self.before[(table, key)]
            new = self.rows_in[table].get(key)
            if old != new:
                found.append((table, key, old, new))
        return found

    def touched_rows(self):
        """The pairs of schema and row of all rows that have become others: as they lay, and as they lie now."""
        pairs = []
        for table, _, old, new in self.changes():
            pairs.extend([(self.schema_with[table], row) for row in (old, new) if row is not None])
        return pairs

    def fewest_calls(self):
        """Calls that do the same, with nothing put that is not there in the end."""
        changed_rows = self.changes()
        made = [name for name in self.schema_with if name in self.named]
        calls = [(REMOVE, name) for name in self.begun_names if name in self.named]
        calls.extend([(DROP, table, key) for table, key, _, new in changed_rows if new is None])
        calls.extend([(PUT, table, new) for table, _, _, new in changed_rows if new is not None])
        for name in made:
            calls.append((MAKE, self.schema_with[name]))
            calls.extend([(PUT, name, self.rows_in[name][key]) for key in sorted(self.rows_in[name])])
        calls.extend([(MAKE_INDEX, self.index_with[name]) for name in self.index_with if name in self.named])
        calls.extend([(MAKE_GUARD, self.guard_with[name]) for name in self.guard_with if name in self.named])
        return calls
