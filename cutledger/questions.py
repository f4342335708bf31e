"""Statements, read from texts (point 50)."""

from cutledger.errors import BadString, BadWords
from cutledger.questionwords import SIGN, WORD, Reader
from cutledger.schemas import is_guard, is_index, is_schema

LONGEST = 1000
DEEPEST = 12
COMPARISONS = ("=", "<>", "<", "<=", ">", ">=")
FOLDS = ("count", "sum", "least", "most")
FIRST_WORDS = (
    "make", "index", "guard", "remove", "put", "drop", "set", "take", "count", "sum", "least", "most",
)


def column(reader):
    """Read a column, which its table may stand ahead of."""
    name = reader.read_name()
    if not reader.took_sign("."):
        return ("column", None, name)
    return ("column", name, reader.read_name())


def worth(reader):
    """Read a value or a column."""
    if reader.is_value_ahead():
        return ("value", reader.read_value())
    return column(reader)


def new_worth(reader):
    """Read a value, a column, or a column and a number that is added or taken away."""
    first = worth(reader)
    if first[0] == "column":
        for sign in ("+", "-"):
            if reader.took_sign(sign):
                return (sign, first, reader.read_figures())
    return first


def part(reader, deep):
    """Read a part of a test: a comparison, one in brackets, or one behind not."""
    if deep > DEEPEST:
        raise BadWords(reader.where())
    if reader.took_word("not"):
        return ("not", part(reader, deep + 1))
    if reader.took_sign("("):
        inner = either(reader, deep + 1)
        reader.need_sign(")")
        return inner
    left = worth(reader)
    return (reader.read_one_of(SIGN, COMPARISONS), left, worth(reader))


def both(reader, deep):
    """Read parts of a test with and between them."""
    test = part(reader, deep)
    while reader.took_word("and"):
        test = ("and", test, part(reader, deep))
    return test


def either(reader, deep):
    """Read parts of a test with or between them."""
    test = both(reader, deep)
    while reader.took_word("or"):
        test = ("or", test, both(reader, deep))
    return test


def where_test(reader):
    """Read a test behind where, None if there is no where."""
    return either(reader, 0) if reader.took_word("where") else None


def names_in_brackets(reader):
    """Read names with commas between them, in brackets."""
    reader.need_sign("(")
    names = [reader.read_name()]
    while reader.took_sign(","):
        names.append(reader.read_name())
    reader.need_sign(")")
    return tuple(names)


def read_make(reader):
    """Read what stands behind make."""
    at = reader.where()
    name = reader.read_name()
    reader.need_sign("(")
    columns = []
    many = 0
    while not columns or reader.took_sign(","):
        columns.append((reader.read_name(), reader.read_kind()))
        # A key behind a column whose neighbor lacks it is left to be what cannot stand.
        if many == len(columns) - 1 and reader.took_word("key"):
            many += 1
    reader.need_sign(")")
    schema = (name, tuple(columns), many)
    if not is_schema(schema):
        raise BadWords(at)
    return ("make", schema)


def read_index(reader):
    """Read what stands behind index."""
    at = reader.where()
    name = reader.read_name()
    reader.need_word("on")
    index = (name, reader.read_name(), names_in_brackets(reader))
    if not is_index(index):
        raise BadWords(at)
    return ("index", index)


def read_guard(reader):
    """Read what stands behind guard."""
    at = reader.where()
    name = reader.read_name()
    reader.need_word("on")
    front = (name, reader.read_name(), names_in_brackets(reader))
    if not is_guard((*front, None)):
        raise BadWords(at)
    other = reader.read_name() if reader.took_word("in") else None
    return ("guard", (*front, other))


def read_put(reader):
    """Read what stands behind put."""
    table = reader.read_name()
    reader.need_sign("(")
    values = [reader.read_value()]
    while reader.took_sign(","):
        values.append(reader.read_value())
    reader.need_sign(")")
    return ("put", table, tuple(values))


def read_drop(reader):
    """Read what stands behind drop."""
    reader.need_word("from")
    table = reader.read_name()
    return ("drop", table, where_test(reader))


def read_setting(reader):
    """Read the name of a column and its worth."""
    name = reader.read_name()
    reader.need_sign("=")
    return (name, new_worth(reader))


def read_set(reader):
    """Read what stands behind set."""
    table = reader.read_name()
    settings = [read_setting(reader)]
    while reader.took_sign(","):
        settings.append(read_setting(reader))
    return ("set", table, tuple(settings), where_test(reader))


def read_source(reader):
    """Read from and the one or two tables behind it."""
    reader.need_word("from")
    table = reader.read_name()
    if not reader.took_word("with"):
        return (table,)
    other = reader.read_name()
    reader.need_word("on")
    first = reader.read_name()
    reader.need_sign("=")
    return (table, other, first, reader.read_name())


def read_columns(reader):
    """Read columns with commas between them, None for a star."""
    if reader.took_sign("*"):
        return None
    columns = [column(reader)]
    while reader.took_sign(","):
        columns.append(column(reader))
    return tuple(columns)


def read_order(reader):
    """Read an order behind by, () if there is no by."""
    if not reader.took_word("by"):
        return ()
    order = []
    while not order or reader.took_sign(","):
        told = column(reader)
        order.append((told, reader.took_word("down")))
    return tuple(order)


def read_take(reader):
    """Read what stands behind take."""
    columns = read_columns(reader)
    source = read_source(reader)
    test = where_test(reader)
    order = read_order(reader)
    first = reader.read_figures() if reader.took_word("first") else None
    return ("take", columns, source, test, order, first)


def read_fold(reader, word):
    """Read what stands behind the word of a fold."""
    folded = None if word == "count" else column(reader)
    source = read_source(reader)
    test = where_test(reader)
    group = column(reader) if reader.took_word("for") else None
    return ("fold", word, folded, source, test, group)


def read_any(reader):
    """Read a statement of any form."""
    word = reader.read_one_of(WORD, FIRST_WORDS)
    if word in FOLDS:
        return read_fold(reader, word)
    if word == "make":
        return read_make(reader)
    if word == "index":
        return read_index(reader)
    if word == "guard":
        return read_guard(reader)
    if word == "remove":
        return ("remove", reader.read_name())
    if word == "put":
        return read_put(reader)
    if word == "drop":
        return read_drop(reader)
    return read_set(reader) if word == "set" else read_take(reader)


def statement_of(text):
    """The statement that a text tells."""
    if not isinstance(text, str):
        raise BadString()
    if len(text) > LONGEST:
        raise BadWords(LONGEST)
    reader = Reader(text)
    statement = read_any(reader)
    reader.need_end()
    return statement
