"""Texts of all tables, and the statements of texts done line by line (point 54)."""

from cutledger.answers import asked
from cutledger.errors import BadString
from cutledger.questiontexts import statement_text


def text_of(work):
    """The text of all tables, with their indexes and guards."""
    statements = []
    for schema in work.schemas():
        statements.append(("make", schema))
        statements.extend([("put", schema[0], row) for row in work.rows(schema[0], None, None)])
    statements.extend([("index", index) for index in work.indexes()])
    statements.extend([("guard", guard) for guard in work.guards()])
    return "\n".join([statement_text(statement) for statement in statements])


def load(work, text):
    """Do the statements of the lines of a text, but of void ones; the list of their answers."""
    work.go_on()
    if not isinstance(text, str):
        raise BadString()
    return [asked(work, line) for line in text.split("\n") if line.strip(" ") != ""]
