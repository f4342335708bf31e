"""Names, schemas, indexes and guards: what has their form, and what can stand upon tables (point 45)."""

from cutledger.cellcodes import are_of_kinds, is_kind, width_of
from cutledger.values import is_integer, is_tuple_of

LETTERS = "abcdefghijklmnopqrstuvwxyz"
LONGEST_NAME = 8
MOST_COLUMNS = 5
MOST_INDEXED = 3
WIDEST = 20


def is_name(value):
    """Whether a value is a name."""
    return isinstance(value, str) and 1 <= len(value) <= LONGEST_NAME and all(sign in LETTERS for sign in value)


def are_unlike(names):
    """Whether no name stands twice among names."""
    return len(set(names)) == len(names)


def is_column(value):
    """Whether a value is a pair of a name and a kind."""
    return is_tuple_of(value, 2, 2) and is_name(value[0]) and is_kind(value[1])


def width(kinds):
    """How many bytes values of kinds have at most."""
    return sum([width_of(kind) for kind in kinds])


def is_schema(value):
    """Whether a value is a schema."""
    if not is_tuple_of(value, 3, 3):
        return False
    name, columns, many = value
    if not is_name(name) or not is_tuple_of(columns, 1, MOST_COLUMNS) or not all(is_column(pair) for pair in columns):
        return False
    if not are_unlike([pair[0] for pair in columns]) or not is_integer(many, 1, len(columns)):
        return False
    return width(key_kinds(value)) <= WIDEST and width(other_kinds(value)) <= WIDEST


def all_kinds(schema):
    """The kinds of the columns of a schema."""
    return tuple([pair[1] for pair in schema[1]])


def key_kinds(schema):
    """The kinds of the columns of the key."""
    return all_kinds(schema)[:schema[2]]


def other_kinds(schema):
    """The kinds of the columns behind the key."""
    return all_kinds(schema)[schema[2]:]


def places_of(schema, names):
    """The places of columns among those of a schema, None for one that it has not."""
    held = [pair[0] for pair in schema[1]]
    return [held.index(name) if name in held else None for name in names]


def kinds_of(schema, names):
    """The kinds of columns of a schema."""
    kinds = all_kinds(schema)
    return tuple([kinds[place] for place in places_of(schema, names)])


def are_names(value):
    """Whether a value is columns as an index and a guard have them: a tuple of a few unlike names."""
    return is_tuple_of(value, 1, MOST_INDEXED) and all(is_name(name) for name in value) and are_unlike(value)


def is_index(value):
    """Whether a value has the form of an index."""
    return is_tuple_of(value, 3, 3) and is_name(value[0]) and is_name(value[1]) and are_names(value[2])


def is_guard(value):
    """Whether a value has the form of a guard."""
    if not is_tuple_of(value, 4, 4) or not is_index(value[:3]):
        return False
    return value[3] is None or is_name(value[3])


def index_stands(schema, index):
    """Whether an index can stand upon its table."""
    if None in places_of(schema, index[2]):
        return False
    return width(kinds_of(schema, index[2])) + width(key_kinds(schema)) <= WIDEST


def guard_stands(schema, other, guard):
    """Whether a guard can stand upon its table and the other one, None if it names none."""
    if None in places_of(schema, guard[2]):
        return False
    return other is None or kinds_of(schema, guard[2]) == key_kinds(other)


def is_row(schema, value):
    """Whether a value is a row of a table."""
    return are_of_kinds(all_kinds(schema), value)


def is_bound(kinds, value):
    """Whether a value is a tuple of values for the first of these kinds, or None."""
    if value is None:
        return True
    return isinstance(value, tuple) and len(value) <= len(kinds) and are_of_kinds(kinds[:len(value)], value)
