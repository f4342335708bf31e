"""Ways to the rows that a test lets: by the key, by an index, or through all (point 51)."""

from cutledger.cellcodes import GREATEST, LONGEST_TEXT, NUMBER, SIGNS, TEXT, is_of_kind
from cutledger.schemas import key_kinds, kinds_of, places_of

# What counts of a comparison, and the same with its sides exchanged.
COUNTED = ("=", "<", "<=", ">", ">=")
EXCHANGED = ("=", ">", ">=", "<", "<=")

ALL = ("all",)


def next_text(text):
    """The next text, None behind the last one."""
    if len(text) < LONGEST_TEXT:
        return text + SIGNS[0]
    rest = text.rstrip(SIGNS[-1])
    if rest == "":
        return None
    return rest[:-1] + SIGNS[SIGNS.index(rest[-1]) + 1]


def next_value(kind, value):
    """The next value of a kind, None behind the last one."""
    if kind == NUMBER:
        return None if value == GREATEST else value + 1
    if kind == TEXT:
        return next_text(value)
    return None if value else True


def next_values(kinds, values):
    """Values with the last one that has a next one exchanged for it, and none behind; None if none has one."""
    for place in range(len(values) - 1, -1, -1):
        further = next_value(kinds[place], values[place])
        if further is not None:
            return (*values[:place], further)
    return None


def parts_of(test):
    """The parts of a test with and between them."""
    if test is None:
        return []
    if test[0] == "and":
        return [*parts_of(test[1]), *parts_of(test[2])]
    return [test]


def counted_part(schema, part):
    """The column, sign and value of a part that compares a column of a table with a value, None for others."""
    if part[0] not in COUNTED:
        return None
    sign, left, right = part
    if left[0] == "value":
        sign, left, right = EXCHANGED[COUNTED.index(sign)], right, left
    if left[0] != "column" or right[0] != "value" or left[1] not in (None, schema[0]):
        return None
    if None in places_of(schema, [left[2]]) or not is_of_kind(kinds_of(schema, [left[2]])[0], right[1]):
        return None
    return (left[2], sign, right[1])


class Way:
    """How far the counted parts of a test lead along columns: settled values, and bounds behind them."""

    def __init__(self, names, kinds, parts):
        self.kinds = kinds
        self.settled = ()
        self.lows = []
        self.highs = []
        for name in names:
            values = [value for column, sign, value in parts if column == name and sign == "="]
            if not values:
                self.bound([part for part in parts if part[0] == name])
                break
            self.settled = (*self.settled, values[0])

    def bound(self, parts):
        """Take in the parts that bound the column behind the settled ones."""
        for _, sign, value in parts:
            values = (*self.settled, value)
            # Beyond a value begins where the next values do.
            edge = values if sign in ("<", ">=") else next_values(self.kinds, values)
            if edge is not None and sign in (">", ">="):
                self.lows.append(edge)
            elif edge is not None:
                self.highs.append(edge)

    def worthiness(self):
        """How good the way is: twice the settled columns, and 1 for a bounded one."""
        return 2 * len(self.settled) + (1 if self.lows or self.highs else 0)

    def low_end(self):
        """The values from which on the rows lie."""
        return max([self.settled, *self.lows])

    def high_end(self):
        """The values ahead of which the rows lie, None if there is no bound."""
        return min(self.highs) if self.highs else next_values(self.kinds, self.settled)


def way_to(tables, table, test):
    """The best way to the rows of a table that a test lets."""
    schema = tables.schema_of(table)
    parts = [counted_part(schema, part) for part in parts_of(test)]
    parts = [part for part in parts if part is not None]
    key = [pair[0] for pair in schema[1][:schema[2]]]
    best = Way(key, key_kinds(schema), parts)
    best_index = None
    for index in tables.indexes_upon(table):
        way = Way(index[2], kinds_of(schema, index[2]), parts)
        if way.worthiness() > best.worthiness():
            best = way
            best_index = index[0]
    if best.worthiness() == 0:
        return ALL
    if best_index is None:
        return ("key", best.low_end(), best.high_end())
    return ("by", best_index, best.low_end(), best.high_end())
