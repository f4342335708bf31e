"""Tables, indexes and guards in a page set (points 45 and 46)."""

from cutledger.catalogues import (
    CATALOGUE, Catalogue, guard_row, index_row, table_row, tell_more, tell_no_more,
)
from cutledger.cellcodes import are_of_kinds, bytes_of, row_of_key
from cutledger.errors import BadKey, BadName, BadRow, BadSchema, NoRoom, NoTable, Taken
from cutledger.nodes import NO_ENTRIES
from cutledger.schemas import (
    guard_stands, index_stands, is_bound, is_guard, is_index, is_name, is_row, is_schema, key_kinds, kinds_of,
    other_kinds, places_of,
)
from cutledger.trees import drop_from, entries, find, leave_tree, new_tree, put_in


def key_of(schema, row):
    """The key under which a row stands in the tree of its table."""
    many = schema[2]
    return bytes_of(key_kinds(schema), row[:many])


def rest_of_row(schema, row):
    """The value with which a row stands in the tree of its table."""
    many = schema[2]
    return bytes_of(other_kinds(schema), row[many:])


def row_with(schema, key, value):
    """The row that stands with a key and a value in the tree of its table."""
    return (*row_of_key(key_kinds(schema), key), *row_of_key(other_kinds(schema), value))


def index_kinds(schema, index):
    """The kinds of the columns of an index, and those of the key behind them."""
    return (*kinds_of(schema, index[2]), *key_kinds(schema))


def index_key(schema, index, row):
    """The key under which a row stands in the tree of an index."""
    values = [row[place] for place in places_of(schema, index[2])]
    return bytes_of(index_kinds(schema, index), (*values, *row[:schema[2]]))


def bound_key(kinds, bound):
    """The key of a tree that is ahead of all keys that begin with the values of a bound; None for no bound."""
    return None if bound is None else bytes_of(kinds[:len(bound)], bound)


def check_bounds(kinds, low, high):
    """Raise BadKey unless both are bounds for values of these kinds."""
    if not is_bound(kinds, low) or not is_bound(kinds, high):
        raise BadKey()


class Tables:
    """Tables and indexes in a page set, and the guards that are told of them."""

    def __init__(self, pages):
        self.pages = pages
        if pages.get(CATALOGUE) == ():
            if CATALOGUE in pages.free:
                # It is the least page, so it is the one that is taken.
                pages.take()
            pages.put(CATALOGUE, NO_ENTRIES)

    def go_on(self):
        """Tables, unlike works, are never over."""

    def check_free(self, told, name):
        """Raise Taken if a table, an index or a guard has a name."""
        if told.has(name):
            raise Taken(name)

    def make(self, schema):
        """Make a table."""
        if not is_schema(schema):
            raise BadSchema()
        self.check_free(Catalogue(self.pages), schema[0])
        mark = self.pages.mark()
        try:
            tell_more(self.pages, schema[0], table_row(schema, new_tree(self.pages)))
        except NoRoom:
            self.pages.back_to(mark)
            raise

    def make_index(self, index):
        """Make an index, and fill it."""
        if not is_index(index):
            raise BadSchema()
        told = Catalogue(self.pages)
        schema, root = told.table_called(index[1])
        if not index_stands(schema, index):
            raise BadSchema()
        self.check_free(told, index[0])
        mark = self.pages.mark()
        try:
            self.fill(schema, root, index)
        except NoRoom:
            self.pages.back_to(mark)
            raise

    def fill(self, schema, root, index):
        """Make the tree of an index for the rows of a table, and tell of it."""
        rows = [row_with(schema, key, value) for key, value in entries(self.pages, root, None, None)]
        tree = new_tree(self.pages)
        tell_more(self.pages, index[0], index_row(index, tree))
        for key in sorted([index_key(schema, index, row) for row in rows]):
            put_in(self.pages, tree, key, ())

    def make_guard(self, guard):
        """Make a guard."""
        if not is_guard(guard):
            raise BadSchema()
        told = Catalogue(self.pages)
        schema = told.table_called(guard[1])[0]
        other = None if guard[3] is None else told.table_called(guard[3])[0]
        if not guard_stands(schema, other, guard):
            raise BadSchema()
        self.check_free(told, guard[0])
        mark = self.pages.mark()
        try:
            tell_more(self.pages, guard[0], guard_row(guard))
        except NoRoom:
            self.pages.back_to(mark)
            raise

    def remove(self, name):
        """Take away a table, with its indexes and the guards that name it, or an index, or a guard."""
        if not is_name(name):
            raise BadName()
        told = Catalogue(self.pages)
        if not told.has(name):
            raise NoTable(name)
        roots = []
        names = [name]
        if name in told.held_tables:
            roots.append(told.held_tables[name][1])
            for index, root in told.indexes_of(name):
                roots.append(root)
                names.append(index[0])
            names.extend(told.guards_with(name))
        elif name in told.held_indexes:
            roots.append(told.held_indexes[name][1])
        for root in roots:
            leave_tree(self.pages, root)
        for each in names:
            tell_no_more(self.pages, each)

    def schema_of(self, table):
        """The schema of a table."""
        return Catalogue(self.pages).table_called(table)[0]

    def index_called(self, name):
        """The index with a name."""
        return Catalogue(self.pages).index_called(name)[0]

    def indexes_upon(self, table):
        """The indexes of a table, names rising."""
        return [pair[0] for pair in Catalogue(self.pages).indexes_of(table)]

    def names_beside(self, name):
        """The names that an index or a guard with a name names, none for other names."""
        if not is_name(name):
            return []
        told = Catalogue(self.pages)
        if name in told.held_indexes:
            return [told.held_indexes[name][0][1]]
        guard = told.held_guards.get(name, (None, None, None, None))
        return [other for other in (guard[1], guard[3]) if other is not None]

    def schemas(self):
        """The schemas of all tables, names rising."""
        held = Catalogue(self.pages).held_tables
        return [held[name][0] for name in sorted(held)]

    def indexes(self):
        """All indexes, names rising."""
        held = Catalogue(self.pages).held_indexes
        return [held[name][0] for name in sorted(held)]

    def guards(self):
        """All guards, names rising."""
        held = Catalogue(self.pages).held_guards
        return [held[name] for name in sorted(held)]

    def put(self, table, row):
        """Let a row stand in the place of that with its key."""
        told = Catalogue(self.pages)
        schema, root = told.table_called(table)
        if not is_row(schema, row):
            raise BadRow()
        mark = self.pages.mark()
        try:
            self.put_row(schema, root, told.indexes_of(table), row)
        except NoRoom:
            self.pages.back_to(mark)
            raise

    def put_row(self, schema, root, indexes, row):
        """Let a row stand in its table and in the indexes of it."""
        key = key_of(schema, row)
        value = rest_of_row(schema, row)
        before = find(self.pages, root, key)
        if before == value:
            return
        if before is not None:
            self.drop_from_indexes(schema, indexes, row_with(schema, key, before))
        put_in(self.pages, root, key, value)
        for index, tree in indexes:
            put_in(self.pages, tree, index_key(schema, index, row), ())

    def drop_from_indexes(self, schema, indexes, row):
        """Let indexes hold a row no more."""
        for index, tree in indexes:
            drop_from(self.pages, tree, index_key(schema, index, row))

    def look_up(self, schema, root, key):
        """The row with a tuple of key values, None without; BadKey for a value that is none."""
        if not are_of_kinds(key_kinds(schema), key):
            raise BadKey()
        code = bytes_of(key_kinds(schema), key)
        value = find(self.pages, root, code)
        return None if value is None else row_with(schema, code, value)

    def get(self, table, key):
        """The row with a tuple of key values, None without."""
        schema, root = Catalogue(self.pages).table_called(table)
        return self.look_up(schema, root, key)

    def drop(self, table, key):
        """Take away the row with a tuple of key values; whether there was one."""
        told = Catalogue(self.pages)
        schema, root = told.table_called(table)
        row = self.look_up(schema, root, key)
        if row is None:
            return False
        drop_from(self.pages, root, key_of(schema, row))
        self.drop_from_indexes(schema, told.indexes_of(table), row)
        return True

    def rows(self, table, low, high):
        """The rows of a table whose keys are not below low and below high, keys rising."""
        schema, root = Catalogue(self.pages).table_called(table)
        kinds = key_kinds(schema)
        check_bounds(kinds, low, high)
        pairs = entries(self.pages, root, bound_key(kinds, low), bound_key(kinds, high))
        return [row_with(schema, key, value) for key, value in pairs]

    def rows_by(self, index, low, high):
        """The rows of a table by the columns of an index, those that are not below low and below high there."""
        told = Catalogue(self.pages)
        held, tree = told.index_called(index)
        schema, root = told.held_tables[held[1]]
        kinds = kinds_of(schema, held[2])
        check_bounds(kinds, low, high)
        pairs = entries(self.pages, tree, bound_key(kinds, low), bound_key(kinds, high))
        many = len(kinds)
        keys = [row_of_key(index_kinds(schema, held), pair[0])[many:] for pair in pairs]
        return [self.look_up(schema, root, key) for key in keys]
