"""Works side by side upon a base of tables (points 47 to 49)."""

from cutledger.errors import Broken, Clash, Ended, NoRoom, RingFull, TooWide
from cutledger.ledgers import DROP, MAKE, MAKE_GUARD, MAKE_INDEX, PUT, REMOVE, Ledger, do_again
from cutledger.looks import Effect, Looks, Span, span_of_key
from cutledger.pagestores import PageStore
from cutledger.schemas import is_guard, is_index, is_schema
from cutledger.vacuum import tables_of


class Work:
    """A work upon the tables of a base as they were when it began.

    tables has them with the work's own changes, calls the calls that made these, in order. begun_commit was the
    last commit when the work began, and begun_effects how many commits of works there were.
    """

    def __init__(self, base):
        self.base = base
        self.tables = tables_of(base.state)
        self.begun_commit = base.commit
        self.begun_effects = len(base.effects)
        self.looks = Looks()
        self.calls = []
        self.is_over = False

    def go_on(self):
        """Raise Ended if the work is over."""
        if self.is_over:
            raise Ended()

    def schema_of(self, table):
        """The schema of a table."""
        self.go_on()
        self.looks.use([table])
        return self.tables.schema_of(table)

    def indexes_upon(self, table):
        """The indexes of a table, names rising: they change no answer, so this is no look at their names."""
        self.go_on()
        return self.tables.indexes_upon(table)

    def make(self, schema):
        """Make a table."""
        self.go_on()
        if is_schema(schema):
            self.looks.use([schema[0]])
        self.tables.make(schema)
        self.calls.append((MAKE, schema))

    def make_index(self, index):
        """Make an index, and fill it."""
        self.go_on()
        if is_index(index):
            self.looks.use(index[:2])
        self.tables.make_index(index)
        self.calls.append((MAKE_INDEX, index))

    def make_guard(self, guard):
        """Make a guard, which is asked for behind the next commit of this work."""
        self.go_on()
        if is_guard(guard):
            self.looks.use([guard[0], guard[1], guard[3]])
        self.tables.make_guard(guard)
        self.calls.append((MAKE_GUARD, guard))

    def remove(self, name):
        """Take away a table, with its indexes and the guards that name it, or an index, or a guard."""
        self.go_on()
        self.looks.use([name, *self.tables.names_beside(name)])
        self.tables.remove(name)
        self.calls.append((REMOVE, name))

    def look_at_all_names(self):
        """Have looked at the whole catalogue."""
        self.go_on()
        self.looks.is_all_looked_at = True

    def schemas(self):
        """The schemas of all tables, names rising."""
        self.look_at_all_names()
        return self.tables.schemas()

    def indexes(self):
        """All indexes, names rising."""
        self.look_at_all_names()
        return self.tables.indexes()

    def guards(self):
        """All guards, names rising."""
        self.look_at_all_names()
        return self.tables.guards()

    def put(self, table, row):
        """Let a row stand in the place of that with its key."""
        self.go_on()
        self.looks.use([table])
        self.tables.put(table, row)
        self.calls.append((PUT, table, row))

    def get(self, table, key):
        """The row with a tuple of key values, None without."""
        schema = self.schema_of(table)
        row = self.tables.get(table, key)
        self.looks.spans.append(span_of_key(schema, key))
        return row

    def drop(self, table, key):
        """Take away the row with a tuple of key values; whether there was one."""
        schema = self.schema_of(table)
        was_there = self.tables.drop(table, key)
        self.looks.spans.append(span_of_key(schema, key))
        self.calls.append((DROP, table, key))
        return was_there

    def rows(self, table, low, high):
        """The rows of a table whose keys are not below low and below high, keys rising."""
        schema = self.schema_of(table)
        rows = self.tables.rows(table, low, high)
        self.looks.spans.append(Span(schema, None, low, high))
        return rows

    def rows_by(self, index, low, high):
        """The rows of a table by the columns of an index, those that are not below low and below high there."""
        self.go_on()
        self.looks.use([index, *self.tables.names_beside(index)])
        rows = self.tables.rows_by(index, low, high)
        held = self.tables.index_called(index)
        self.looks.spans.append(Span(self.tables.schema_of(held[1]), held[2], low, high))
        return rows

    def leave(self):
        """Forget all changes."""
        self.go_on()
        self.is_over = True

    def finish(self):
        """Put the changes in; the number of the commit."""
        self.go_on()
        met = [name for effect in self.base.effects[self.begun_effects:] for name in self.looks.met_by(effect)]
        if met:
            self.is_over = True
            raise Clash(min(met))
        number = self.base.put_in(self.calls) if self.calls else self.begun_commit
        self.is_over = True
        return number


class Base:
    """A base of tables in a page store; effects has what each commit of its works has done, in order."""

    def __init__(self, shape, image=None):
        self.store = PageStore(shape, image)
        self.effects = []

    @property
    def commit(self):
        """The last commit."""
        return self.store.commit

    @property
    def sure(self):
        """The last commit that no cut now can take."""
        return self.store.sure

    @property
    def waiting(self):
        """How many blocks that were written wait."""
        return self.store.waiting

    @property
    def state(self):
        """The state behind the last commit."""
        return self.store.state

    def begin(self):
        """A work upon the tables as they are."""
        return Work(self)

    def as_of(self, commit):
        """The tables, to be read alone, as they were behind a commit that the store keeps."""
        return tables_of(self.store.as_of(commit))

    def sync(self):
        """Let all blocks that wait be done."""
        self.store.sync()

    def check(self):
        """Copy the pages of the log to their places, and begin the log anew."""
        self.store.check()

    def cut(self, fates):
        """The image that a cut now leaves; the base goes on as if there had been none."""
        return self.store.cut(fates)

    def put_in(self, calls):
        """Let the calls of a work be done upon the tables as they are now; the last commit behind them."""
        ledger = Ledger(tables_of(self.store.state))
        for call in calls:
            ledger.take_in(call)
        broken = ledger.first_broken()
        if broken is not None:
            raise Broken(broken)
        try:
            # What was put and taken away again changes no page, and needs none.
            batch = self.batch_of(ledger.fewest_calls())
        except NoRoom:
            # In the order in which there was room for them, there may be some again.
            batch = self.batch_of(calls)
        if batch:
            self.write(batch)
            self.effects.append(Effect(ledger))
        return self.store.commit

    def batch_of(self, calls):
        """The batch of what calls change upon the tables as they are now."""
        tables = tables_of(self.store.state)
        for call in calls:
            do_again(tables, call)
        batch = tables.pages.batch()
        if len(batch) > self.store.life.shape[1]:
            raise TooWide()
        return batch

    def write(self, batch):
        """Commit a batch; a check makes room for it where the ring is full."""
        try:
            self.store.write(batch)
        except RingFull:
            self.store.check()
            self.store.write(batch)
