"""What works upon a base should do, told once more: each is done alone behind the commits ahead of its own."""

from cutledger.errors import CutError
from cutledger.pagesets import PageSet
from cutledger.tables import Tables
from helpers import bad, told

PAGES = 64
CHANGING = ("make", "make_index", "make_guard", "remove", "put", "drop")


def content(tables):
    """All that tables hold."""
    schemas = tables.schemas()
    rows = {schema[0]: tables.rows(schema[0], None, None) for schema in schemas}
    by = {index[0]: tables.rows_by(index[0], None, None) for index in tables.indexes()}
    return (schemas, tables.indexes(), tables.guards(), rows, by)


def rows_by_key(schema, rows):
    return {row[:schema[2]]: row for row in rows}


def column_values(schema, names, row):
    held = [pair[0] for pair in schema[1]]
    return tuple(row[held.index(name)] for name in names)


def first_broken(told_content):
    """The first guard that rows don't keep, looked at pair by pair."""
    schemas, _, guards, rows, _ = told_content
    schema_with = {schema[0]: schema for schema in schemas}
    for name, table, columns, other in guards:
        values = [column_values(schema_with[table], columns, row) for row in rows[table]]
        if other is None:
            if any(values[at] == values[to] for at in range(len(values)) for to in range(at)):
                return name
        else:
            keys = [row[:schema_with[other][2]] for row in rows[other]]
            if any(value not in keys for value in values):
                return name
    return None


def is_within(values, low, high):
    return (low is None or values >= low) and (high is None or values < high)


class Shadow:
    """What a work has called and been answered, and what it has looked at, as point 47 says it."""

    def __init__(self, serial):
        self.serial = serial
        self.begun = serial.last
        self.calls = []
        self.used = set()
        self.looks = []
        self.saw_all = False
        self.changes = False

    def names_of(self, name):
        """A name, and those that the index or the guard with it names."""
        tables = self.now()
        for index in tables.indexes():
            if index[0] == name:
                return [name, index[1]]
        for guard in tables.guards():
            if guard[0] == name:
                return [name, guard[1]] + ([] if guard[3] is None else [guard[3]])
        return [name]

    def now(self):
        """The tables as this work sees them."""
        tables = self.serial.tables_behind(self.begun)
        for call, _ in self.calls:
            told(getattr(tables, call[0]), *call[1:])
        return tables

    def note(self, call, answer, names):
        """Take in a call, what it answered, and what `names_of` told ahead of it."""
        word = call[0]
        fine = not isinstance(answer, tuple) or answer[:1] not in [(name,) for name in ERRORS]
        self.used.update(names)
        if word in ("schemas", "indexes", "guards"):
            self.saw_all = True
        if fine and word in ("get", "drop"):
            self.looks.append((call[1], None, "is", call[2]))
        if fine and word == "rows":
            self.looks.append((call[1], None, call[2], call[3]))
        if fine and word == "rows_by":
            index = [one for one in self.now().indexes() if one[0] == call[1]][0]
            self.looks.append((index[1], index[2], call[2], call[3]))
        if fine and word in CHANGING:
            self.changes = True
        self.calls.append((call, answer))

    def clash(self):
        """The name of the clash that the commits since the begin make, None without one."""
        met = []
        for names, rows in self.serial.effects[self.begun:]:
            met += [name for name in names if self.saw_all or name in self.used]
            for schema, row in rows:
                met += [schema[0] for look in self.looks if self.lies(look, schema, row)]
        return min(met) if met else None

    def lies(self, look, schema, row):
        table, columns, low, high = look
        if table != schema[0]:
            return False
        key = row[:schema[2]]
        if low == "is":
            return key == high
        if columns is None:
            return is_within(key, low, high)
        return is_within(column_values(schema, columns, row), low, high)


class Serial:
    """The commits of a base, one behind another: states has (state, free) behind each, effects what each has done."""

    def __init__(self, pages=PAGES):
        self.states = [(((),) * pages, tuple(range(1, pages)))]
        self.effects = []

    @property
    def last(self):
        return len(self.states) - 1

    def tables_behind(self, commit):
        return Tables(PageSet(*self.states[commit]))

    def run(self, commit, calls):
        """The answers of calls behind a commit, the tables behind them, and the names that they made or removed."""
        tables = self.tables_behind(commit)
        answers, names = [], []
        for call in calls:
            before = self.names(tables)
            answers.append(told(getattr(tables, call[0]), *call[1:]))
            names += sorted(before ^ self.names(tables))
        return answers, tables, names

    def names(self, tables):
        return {one[0] for one in [*tables.schemas(), *tables.indexes(), *tables.guards()]}

    def add(self, tables, names):
        """Let tables be those behind one commit more."""
        old, new = content(self.tables_behind(self.last)), content(tables)
        rows = []
        for schema in new[0]:
            if schema in old[0] and schema[0] not in names:
                was, now = (rows_by_key(schema, one[3][schema[0]]) for one in (old, new))
                for key in sorted({*was, *now}):
                    if was.get(key) != now.get(key):
                        rows += [(schema, row) for row in (was.get(key), now.get(key)) if row is not None]
        self.effects.append((names, rows))
        self.states.append((tables.pages.whole_state(), tables.pages.free))


ERRORS = [one.__name__ for one in CutError.__subclasses__()]
__all__ = ["Serial", "Shadow", "content", "first_broken", "bad"]
