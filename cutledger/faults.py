"""What is wrong with a state as one of a base of tables (point 53)."""

from cutledger.catalogues import (
    CATALOGUE, GUARD, INDEX, MARK, TABLE, Catalogue, guard_row, index_row, row_entries, rows_by_name, table_row,
)
from cutledger.cellcodes import KINDS
from cutledger.errors import BadRow
from cutledger.guards import breaking_row
from cutledger.pagesets import PageSet
from cutledger.schemas import LETTERS, guard_stands, index_stands, is_guard, is_index, is_schema
from cutledger.tables import index_key, row_with
from cutledger.treejudges import TreeJudge
from cutledger.vacuum import check_state


def names_ended(row):
    """How many names the bytes of a row tell, 0 if they are not names alone."""
    if not all(1 <= byte % MARK <= len(LETTERS) and byte // MARK <= len(KINDS) for byte in row):
        return 0
    ended = [byte > MARK for byte in row]
    return ended.count(True) if ended and ended[-1] else 0


def can_be_read(row):
    """Whether the bytes that a catalogue has for a name can be read at all."""
    if len(row) < 3:
        return False
    if row[0] == TABLE:
        return names_ended(row[3:]) > 0
    if row[0] == INDEX:
        return names_ended(row[2:]) > 0
    # A guard's own table is ahead of the other one, if it names one.
    return row[0] == GUARD and names_ended(row[2:]) > (0 if row[1] == 0 else 1)


def told_entries(told):
    """The entries that a catalogue has for what it tells."""
    pairs = []
    for name in told.held_tables:
        pairs.extend(row_entries(name, table_row(told.held_tables[name][0], told.held_tables[name][1])))
    for name in told.held_indexes:
        pairs.extend(row_entries(name, index_row(told.held_indexes[name][0], told.held_indexes[name][1])))
    for name in told.held_guards:
        pairs.extend(row_entries(name, guard_row(told.held_guards[name])))
    return sorted(pairs)


def schema_told(told, name):
    """The schema of a table that a catalogue tells of, None if it doesn't, or if it is none."""
    schema = told.held_tables.get(name, (None, None))[0]
    return schema if is_schema(schema) else None


def index_is_right(told, index):
    """Whether an index of a catalogue can stand upon its tables."""
    schema = schema_told(told, index[1])
    return is_index(index) and schema is not None and index_stands(schema, index)


def guard_is_right(told, guard):
    """Whether a guard of a catalogue can stand upon its tables."""
    schema = schema_told(told, guard[1])
    other = schema_told(told, guard[3])
    if not is_guard(guard) or schema is None or (other is None and guard[3] is not None):
        return False
    return guard_stands(schema, other, guard)


def catalogue_of(state, pairs):
    """The catalogue of a state whose right tree at page 0 has these entries, None if it is no catalogue."""
    if not all(names_ended(key[:-1]) == 1 for key, _ in pairs):
        return None
    rows = rows_by_name(pairs)
    if not all(can_be_read(rows[name]) for name in rows):
        return None
    told = Catalogue(PageSet(state, ()))
    stands = (
        all(schema_told(told, name) is not None for name in told.held_tables)
        and all(index_is_right(told, told.held_indexes[name][0]) for name in told.held_indexes)
        and all(guard_is_right(told, told.held_guards[name]) for name in told.held_guards)
    )
    return told if stands and told_entries(told) == pairs else None


def rows_told(judge, schema, triples):
    """The rows that entries of a table tell; faults are told of those that tell none."""
    rows = []
    for key, value, page in triples:
        try:
            rows.append(row_with(schema, key, value))
        except BadRow:
            judge.say("row", page)
    return rows


def judge_tables(judge, told):
    """Tell of the faults of all tables; the rows of each of which the tree is right."""
    rows_in = {}
    for name in told.held_tables:
        schema, root = told.held_tables[name]
        triples = judge.entries_below(root, CATALOGUE)
        if triples is not None:
            rows_in[name] = rows_told(judge, schema, triples)
    return rows_in


def judge_indexes(judge, told, rows_in):
    """Tell of the faults of all indexes."""
    for name in told.held_indexes:
        index, root = told.held_indexes[name]
        triples = judge.entries_below(root, CATALOGUE)
        if triples is not None and index[1] in rows_in:
            schema = told.held_tables[index[1]][0]
            keys = sorted([index_key(schema, index, row) for row in rows_in[index[1]]])
            if [triple[:2] for triple in triples] != [(key, ()) for key in keys]:
                judge.say("index", root)


def judge_guards(judge, told, rows_in):
    """Tell of the guards that rows don't keep."""
    for name in told.held_guards:
        guard = told.held_guards[name]
        if guard[1] in rows_in and (guard[3] is None or guard[3] in rows_in):
            schema, root = told.held_tables[guard[1]]
            keys = None
            if guard[3] is not None:
                many = told.held_tables[guard[3]][0][2]
                keys = {row[:many]: True for row in rows_in[guard[3]]}
            if breaking_row(schema, guard, rows_in[guard[1]], keys) is not None:
                judge.say("guard", root)


def faults(state):
    """The pairs of word and page that tell what is wrong with a state, [] if nothing is."""
    check_state(state)
    judge = TreeJudge(state)
    if state[CATALOGUE] == ():
        return [("node", CATALOGUE)] if any(page != () for page in state) else []
    triples = judge.entries_below(CATALOGUE, CATALOGUE)
    if triples is None:
        return judge.found
    told = catalogue_of(state, [triple[:2] for triple in triples])
    if told is None:
        return [("catalogue", CATALOGUE)]
    rows_in = judge_tables(judge, told)
    judge_indexes(judge, told, rows_in)
    judge_guards(judge, told, rows_in)
    return judge.found
