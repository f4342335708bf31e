"""Texts of statements (point 50)."""

from cutledger.questionwords import QUOTE

# How fast the parts of a test hold together: what holds less fast stands in brackets.
OR = 1
AND = 2
PART = 3


def value_text(value):
    """The text of a value."""
    if value is True or value is False:
        return "true" if value else "false"
    if isinstance(value, str):
        return QUOTE + value.replace(QUOTE, QUOTE + QUOTE) + QUOTE
    return str(value)


def column_text(column):
    """The text of a column."""
    return column[2] if column[1] is None else f"{column[1]}.{column[2]}"


def worth_text(worth):
    """The text of a worth."""
    if worth[0] == "value":
        return value_text(worth[1])
    if worth[0] == "column":
        return column_text(worth)
    return f"{column_text(worth[1])} {worth[0]} {worth[2]}"


def hold_of(test):
    """How fast a test holds together."""
    if test[0] == "or":
        return OR
    return AND if test[0] == "and" else PART


def test_text(test, least):
    """The text of a test, in brackets if it does not hold so fast."""
    hold = hold_of(test)
    if test[0] == "not":
        text = f"not {test_text(test[1], PART)}"
    elif hold == PART:
        text = f"{worth_text(test[1])} {test[0]} {worth_text(test[2])}"
    else:
        # Read from the left: a second part of the same word would be read as one behind both.
        text = f"{test_text(test[1], hold)} {test[0]} {test_text(test[2], hold + 1)}"
    return f"({text})" if hold < least else text


def listed(texts):
    """Texts with commas between them."""
    return ", ".join(texts)


def where_text(test):
    """What stands of a test behind a table, with a blank ahead; nothing for None."""
    return "" if test is None else f" where {test_text(test, OR)}"


def source_text(source):
    """The text of a source, with from ahead of it."""
    if len(source) == 1:
        return f"from {source[0]}"
    return f"from {source[0]} with {source[1]} on {source[2]} = {source[3]}"


def make_text(schema):
    """The text that makes a table."""
    name, columns, many = schema
    ends = [" key"] * many + [""] * (len(columns) - many)
    told = listed([f"{column} {kind}{end}" for (column, kind), end in zip(columns, ends)])
    return f"make {name} ({told})"


def guard_text(guard):
    """The text that makes a guard."""
    end = "" if guard[3] is None else f" in {guard[3]}"
    return f"guard {guard[0]} on {guard[1]} ({listed(guard[2])}){end}"


def set_text(statement):
    """The text of a set."""
    _, table, settings, test = statement
    told = listed([f"{name} = {worth_text(worth)}" for name, worth in settings])
    return f"set {table} {told}{where_text(test)}"


def order_text(order):
    """What stands of an order, with a blank ahead; nothing without columns."""
    if not order:
        return ""
    told = [column_text(column) + (" down" if is_down else "") for column, is_down in order]
    return f" by {listed(told)}"


def take_text(statement):
    """The text of a take."""
    _, columns, source, test, order, first = statement
    told = "*" if columns is None else listed([column_text(column) for column in columns])
    end = "" if first is None else f" first {first}"
    return f"take {told} {source_text(source)}{where_text(test)}{order_text(order)}{end}"


def fold_text(statement):
    """The text of a fold."""
    _, word, column, source, test, group = statement
    told = word if column is None else f"{word} {column_text(column)}"
    end = "" if group is None else f" for {column_text(group)}"
    return f"{told} {source_text(source)}{where_text(test)}{end}"


def statement_text(statement):
    """A text of a statement, with no brackets that are not needed."""
    word = statement[0]
    if word == "make":
        return make_text(statement[1])
    if word == "index":
        name, table, columns = statement[1]
        return f"index {name} on {table} ({listed(columns)})"
    if word == "guard":
        return guard_text(statement[1])
    if word == "remove":
        return f"remove {statement[1]}"
    if word == "put":
        values = listed([value_text(value) for value in statement[2]])
        return f"put {statement[1]} ({values})"
    if word == "drop":
        return f"drop from {statement[1]}{where_text(statement[2])}"
    if word == "set":
        return set_text(statement)
    return take_text(statement) if word == "take" else fold_text(statement)
