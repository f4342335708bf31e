"""What a statement asks of one table or of two: their columns, and whether a test lets a row (point 51)."""

from cutledger.cellcodes import KINDS, NUMBER, is_of_kind
from cutledger.errors import BadQuestion

VALUE = "value"
COLUMN = "column"
JOINING = ("and", "or")


def kind_of(value):
    """The kind of a value; BadQuestion for one of no kind, as a number beyond a million is."""
    for kind in KINDS:
        if is_of_kind(kind, value):
            return kind
    raise BadQuestion()


class Source:
    """The columns of one or two tables, whose rows stand one behind the other in a tuple.

    place_with and kind_with tell of each pair of table and column its place in the tuple and its kind.
    """

    def __init__(self, schemas):
        self.sides = schemas
        self.place_with = {}
        self.kind_with = {}
        for schema in schemas:
            for name, kind in schema[1]:
                self.place_with[(schema[0], name)] = len(self.place_with)
                self.kind_with[(schema[0], name)] = kind

    def with_table(self, column):
        """A column with its table: without one, it is that of the first table that has it."""
        for table, name in self.place_with:
            if name == column[2] and column[1] in (None, table):
                return (COLUMN, table, name)
        raise BadQuestion()

    def worth_with_table(self, worth):
        """A worth with the table of its column."""
        if worth[0] == VALUE:
            return worth
        if worth[0] == COLUMN:
            return self.with_table(worth)
        sign, column, number = worth
        if self.kind_at(self.with_table(column)) != NUMBER or not is_of_kind(NUMBER, number):
            raise BadQuestion()
        return (sign, self.with_table(column), number)

    def test_with_tables(self, test):
        """A test with the tables of its columns; BadQuestion if it compares unlike kinds."""
        if test is None:
            return None
        if test[0] == "not":
            return ("not", self.test_with_tables(test[1]))
        if test[0] in JOINING:
            return (test[0], self.test_with_tables(test[1]), self.test_with_tables(test[2]))
        left, right = self.worth_with_table(test[1]), self.worth_with_table(test[2])
        if self.kind_of_worth(left) != self.kind_of_worth(right):
            raise BadQuestion()
        return (test[0], left, right)

    def kind_at(self, column):
        """The kind of a column with its table."""
        return self.kind_with[column[1:]]

    def kind_of_worth(self, worth):
        """The kind of a worth with its table."""
        if worth[0] == VALUE:
            return kind_of(worth[1])
        return self.kind_at(worth) if worth[0] == COLUMN else NUMBER

    def value_at(self, column, row):
        """What stands in a column of a row."""
        return row[self.place_with[column[1:]]]

    def worth_at(self, worth, row):
        """What a worth is for a row."""
        if worth[0] == VALUE:
            return worth[1]
        if worth[0] == COLUMN:
            return self.value_at(worth, row)
        value = self.value_at(worth[1], row)
        return value + worth[2] if worth[0] == "+" else value - worth[2]

    def lets(self, test, row):
        """Whether a test lets a row."""
        if test is None:
            return True
        word = test[0]
        if word == "not":
            return not self.lets(test[1], row)
        if word == "and":
            return self.lets(test[1], row) and self.lets(test[2], row)
        if word == "or":
            return self.lets(test[1], row) or self.lets(test[2], row)
        return compares(word, self.worth_at(test[1], row), self.worth_at(test[2], row))


def compares(sign, left, right):
    """Whether two values of one kind compare as a sign says."""
    if sign == "=":
        return left == right
    if sign == "<>":
        return left != right
    if sign == "<":
        return left < right
    if sign == "<=":
        return left <= right
    return left > right if sign == ">" else left >= right
