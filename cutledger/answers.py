"""Answers of statements upon tables (point 51)."""

from cutledger.cellcodes import NUMBER, is_of_kind
from cutledger.errors import BadQuestion
from cutledger.questions import statement_of
from cutledger.sources import COLUMN, Source
from cutledger.ways import ALL, way_to


def source_of(work, names):
    """The source of one table, or of two and a column of each; BadQuestion if these can't be put together."""
    source = Source([work.schema_of(table) for table in names[:2]])
    if len(names) == 4:
        if names[0] == names[1]:
            raise BadQuestion()
        kinds = [source.kind_at(source.with_table(column)) for column in joining_columns(names)]
        if kinds[0] != kinds[1]:
            raise BadQuestion()
    return source


def joining_columns(names):
    """The columns by which two tables are put together."""
    return [(COLUMN, names[0], names[2]), (COLUMN, names[1], names[3])]


def rows_on_way(work, table, test, plain):
    """Rows of a table in the order of their keys: all that a test lets, and perhaps others."""
    way = ALL if plain else way_to(work, table, test)
    if way == ALL:
        return work.rows(table, None, None)
    if way[0] == "key":
        return work.rows(table, way[1], way[2])
    # No two rows have the same key, so the columns behind it have no say.
    return sorted(work.rows_by(way[1], way[2], way[3]))


def put_together(work, source, names, test, plain):
    """The rows of two tables, in one tuple each, that are alike in a column of each."""
    first, other = joining_columns(names)
    rows_with = {}
    for row in rows_on_way(work, names[1], test, plain):
        value = row[source.place_with[other[1:]] - len(source.sides[0][1])]
        rows_with.setdefault(value, []).append(row)
    together = []
    for row in rows_on_way(work, names[0], test, plain):
        value = source.value_at(first, row)
        together.extend([(*row, *behind) for behind in rows_with.get(value, [])])
    return together


def rows_let(work, source, names, test, plain):
    """The rows of a source that a test lets, in the order of their keys."""
    if len(names) == 1:
        rows = rows_on_way(work, names[0], test, plain)
    else:
        rows = put_together(work, source, names, test, plain)
    return [row for row in rows if source.lets(test, row)]


def ordered(source, rows, column, is_down):
    """Rows by a column, what is alike staying as it was."""
    places = {}
    for place, row in enumerate(rows):
        places.setdefault(source.value_at(column, row), []).append(place)
    values = sorted(places)
    if is_down:
        values = list(reversed(values))
    return [rows[place] for value in values for place in places[value]]


def taken(work, statement, plain):
    """The answer of a take."""
    _, columns, names, test, order, first = statement
    source = source_of(work, names)
    told_test = source.test_with_tables(test)
    told_columns = None if columns is None else [source.with_table(column) for column in columns]
    told_order = [(source.with_table(column), is_down) for column, is_down in order]
    rows = rows_let(work, source, names, told_test, plain)
    # By the last column first: what an earlier one finds alike then stays in its order.
    for ordering, is_down in reversed(told_order):
        rows = ordered(source, rows, ordering, is_down)
    rows = rows if first is None else rows[:first]
    if told_columns is None:
        return rows
    return [tuple([source.value_at(column, row) for column in told_columns]) for row in rows]


def folded_values(word, values):
    """What a fold makes of values."""
    if word == "count":
        return len(values)
    if word == "sum":
        return sum(values)
    return min(values, default=None) if word == "least" else max(values, default=None)


def folded(work, statement, plain):
    """The answer of a fold."""
    _, word, column, names, test, group = statement
    source = source_of(work, names)
    told_test = source.test_with_tables(test)
    told_column = None if column is None else source.with_table(column)
    if word == "sum" and source.kind_at(told_column) != NUMBER:
        raise BadQuestion()
    told_group = None if group is None else source.with_table(group)
    rows = rows_let(work, source, names, told_test, plain)
    # To be counted, any values will do.
    values = rows if told_column is None else [source.value_at(told_column, row) for row in rows]
    if told_group is None:
        return folded_values(word, values)
    groups = {}
    for row, value in zip(rows, values):
        groups.setdefault(source.value_at(told_group, row), []).append(value)
    return [(key, folded_values(word, groups[key])) for key in sorted(groups)]


def dropped(work, statement, plain):
    """Drop the rows of a table that a test lets; how many."""
    _, table, test = statement
    source = source_of(work, (table,))
    many = source.sides[0][2]
    rows = rows_let(work, source, (table,), source.test_with_tables(test), plain)
    for row in rows:
        work.drop(table, row[:many])
    return len(rows)


def told_setting(source, setting):
    """The place of a column and its worth with its table; BadQuestion if the column cannot be so set."""
    name, worth = setting
    column = source.with_table((COLUMN, None, name))
    place = source.place_with[column[1:]]
    told_worth = source.worth_with_table(worth)
    if place < source.sides[0][2] or source.kind_of_worth(told_worth) != source.kind_at(column):
        raise BadQuestion()
    return (place, told_worth)


def row_set(source, settings, row):
    """A row with its columns set; BadQuestion if a number is beyond a million."""
    values = list(row)
    for place, worth in settings:
        value = source.worth_at(worth, row)
        if not is_of_kind(source.kind_of_worth(worth), value):
            raise BadQuestion()
        values[place] = value
    return tuple(values)


def set_rows(work, statement, plain):
    """Set columns of the rows of a table that a test lets; how many rows."""
    _, table, settings, test = statement
    source = source_of(work, (table,))
    told_settings = [told_setting(source, setting) for setting in settings]
    rows = rows_let(work, source, (table,), source.test_with_tables(test), plain)
    for row in [row_set(source, told_settings, row) for row in rows]:
        work.put(table, row)
    return len(rows)


def answered(work, statement, plain=False):
    """The answer of a statement in a work; plain looks at all rows."""
    word = statement[0]
    if word == "take":
        return taken(work, statement, plain)
    if word == "fold":
        return folded(work, statement, plain)
    if word == "drop":
        return dropped(work, statement, plain)
    if word == "set":
        return set_rows(work, statement, plain)
    if word == "make":
        work.make(statement[1])
    elif word == "index":
        work.make_index(statement[1])
    elif word == "guard":
        work.make_guard(statement[1])
    elif word == "remove":
        work.remove(statement[1])
    else:
        work.put(statement[1], statement[2])
    return None


def asked(work, text):
    """The answer of the statement of a text in a work."""
    # A work that is over is told of ahead of a text that is wrong, as it stands ahead of it.
    work.go_on()
    return answered(work, statement_of(text))


def said(base, text):
    """The answer of the statement of a text, in a work of its own that is put in."""
    work = base.begin()
    answer = asked(work, text)
    work.finish()
    return answer
