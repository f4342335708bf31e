"""Statements chosen by a seed, and their words, signs, numbers and texts, one by one."""

NAMES = ["a", "b", "pets", "abcdefgh", "zzzzzzzz", "i", "ins", "ke", "keys", "tru", "fromm", "an", "nots"]
SIGNS = [chr(code) for code in range(32, 127) if chr(code) != "%"]
COMPARISONS = ["=", "<>", "<", "<=", ">", ">="]


def any_value(chosen):
    lot = chosen.randrange(4)
    if lot == 0:
        return chosen.choice((True, False))
    if lot == 1:
        return "".join(chosen.choice(SIGNS + ["'"] * 20 + [" "] * 9) for _ in range(chosen.choice((0, 1, 3, 9, 10))))
    return chosen.choice((0, 1, -1, 7, 42, 1000000, -1000000, chosen.randint(-1000000, 1000000)))


def any_column(chosen):
    return ("column", chosen.choice((None, None, *NAMES)), chosen.choice(NAMES))


def any_worth(chosen):
    return ("value", any_value(chosen)) if chosen.randrange(2) else any_column(chosen)


def any_test(chosen, deep):
    """A test of which the parts stand at most so deep in one another."""
    lot = chosen.randrange(6) if deep > 0 else 5
    if lot < 2:
        return ("and", any_test(chosen, deep - 1), any_test(chosen, deep - 1))
    if lot < 4:
        return ("or", any_test(chosen, deep - 1), any_test(chosen, deep - 1))
    if lot == 4:
        return ("not", any_test(chosen, deep - 1))
    return (chosen.choice(COMPARISONS), any_worth(chosen), any_worth(chosen))


def maybe_test(chosen):
    return None if chosen.randrange(3) == 0 else any_test(chosen, chosen.randint(0, 5))


def any_source(chosen):
    if chosen.randrange(2):
        return (chosen.choice(NAMES),)
    return tuple(chosen.choice(NAMES) for _ in range(4))


def any_setting(chosen):
    worth = any_worth(chosen) if chosen.randrange(2) else (chosen.choice("+-"), any_column(chosen), chosen.choice((0, 1, 1000000)))
    return (chosen.choice(NAMES), worth)


def some(chosen, make, most):
    return tuple(make(chosen) for _ in range(chosen.randint(1, most)))


def any_statement(chosen, word=None):
    word = word or chosen.choice(("make", "index", "guard", "remove", "put", "drop", "set", "take", "fold"))
    name = chosen.choice(NAMES)
    if word == "make":
        # A text, two numbers and two truths have 19 bytes, which may all be the key's.
        kinds = chosen.sample(["text", "number", "number", "truth", "truth"], 5)
        columns = list(zip(chosen.sample(NAMES, chosen.randint(1, 5)), kinds))
        return (word, (name, tuple(columns), chosen.randint(1, len(columns))))
    if word in ("index", "guard"):
        told = (name, chosen.choice(NAMES), tuple(chosen.sample(NAMES, chosen.randint(1, 3))))
        return (word, told if word == "index" else (*told, chosen.choice((None, *NAMES))))
    if word == "remove":
        return (word, name)
    if word == "put":
        return (word, name, some(chosen, any_value, 6))
    if word == "drop":
        return (word, name, maybe_test(chosen))
    if word == "set":
        return (word, name, some(chosen, any_setting, 3), maybe_test(chosen))
    if word == "take":
        columns = None if chosen.randrange(3) == 0 else some(chosen, any_column, 3)
        order = some(chosen, lambda one: (any_column(one), one.choice((True, False))), 3) if chosen.randrange(2) else ()
        return (word, columns, any_source(chosen), maybe_test(chosen), order, chosen.choice((None, 0, 1, 10, 1000000)))
    fold = chosen.choice(("count", "sum", "least", "most"))
    column = None if fold == "count" else any_column(chosen)
    return (word, fold, column, any_source(chosen), maybe_test(chosen), any_column(chosen) if chosen.randrange(2) else None)


def commas(parts):
    """The tokens of parts with commas between them."""
    tokens = []
    for part in parts:
        tokens += [","] * bool(tokens) + part
    return tokens


def value_tokens(value):
    if isinstance(value, bool):
        return ["true" if value else "false"]
    return ["'" + value.replace("'", "''") + "'"] if isinstance(value, str) else [str(value)]


def column_tokens(column):
    return [column[2]] if column[1] is None else [column[1], ".", column[2]]


def worth_tokens(worth):
    if worth[0] == "value":
        return value_tokens(worth[1])
    if worth[0] == "column":
        return column_tokens(worth)
    return [*column_tokens(worth[1]), worth[0], str(worth[2])]


def test_tokens(test, chosen=None, least=1):
    """The tokens of a test; needless brackets stand here and there, if there is something to choose them by."""
    hold = {"or": 1, "and": 2}.get(test[0], 3)
    if test[0] == "not":
        tokens = ["not", *test_tokens(test[1], chosen, 3)]
    elif hold == 3:
        tokens = [*worth_tokens(test[1]), test[0], *worth_tokens(test[2])]
    else:
        tokens = [*test_tokens(test[1], chosen, hold), test[0], *test_tokens(test[2], chosen, hold + 1)]
    needless = chosen is not None and chosen.randrange(8) == 0
    return ["(", *tokens, ")"] if hold < least or needless else tokens


def where_tokens(test, chosen):
    return [] if test is None else ["where", *test_tokens(test, chosen)]


def source_tokens(source):
    return ["from", source[0]] + (["with", source[1], "on", source[2], "=", source[3]] if len(source) == 4 else [])


def tokens_of(statement, chosen=None):
    """The words, signs, numbers and texts of a statement."""
    word, *rest = statement
    if word == "make":
        name, columns, many = rest[0]
        return [word, name, "(", *commas([[*column, *["key"] * (at < many)] for at, column in enumerate(columns)]), ")"]
    if word in ("index", "guard"):
        name, table, columns = rest[0][:3]
        other = [] if word == "index" or rest[0][3] is None else ["in", rest[0][3]]
        return [word, name, "on", table, "(", *commas([[column] for column in columns]), ")", *other]
    if word == "remove":
        return [word, rest[0]]
    if word == "put":
        return [word, rest[0], "(", *commas([value_tokens(value) for value in rest[1]]), ")"]
    if word == "drop":
        return [word, "from", rest[0], *where_tokens(rest[1], chosen)]
    if word == "set":
        return [word, rest[0], *commas([[name, "=", *worth_tokens(worth)] for name, worth in rest[1]]), *where_tokens(rest[2], chosen)]
    if word == "take":
        columns, source, test, order, first = rest
        tokens = [word, *(["*"] if columns is None else commas([column_tokens(column) for column in columns]))]
        by = ["by", *commas([column_tokens(column) + ["down"] * is_down for column, is_down in order])] if order else []
        return [*tokens, *source_tokens(source), *where_tokens(test, chosen), *by, *(["first", str(first)] if first is not None else [])]
    fold, column, source, test, group = rest
    end = [] if group is None else ["for", *column_tokens(group)]
    return [fold, *(column_tokens(column) if column else []), *source_tokens(source), *where_tokens(test, chosen), *end]


def is_letter(sign):
    return "a" <= sign <= "z"


def join(tokens, chosen=None):
    """A text of tokens, and where each begins: blanks where they are needed, and more if there is something to choose them by."""
    text, starts = "", []
    if chosen is not None:
        text = " " * chosen.choice((0, 0, 1, 3))
    for token in tokens:
        needed = text != "" and is_letter(text[-1]) and is_letter(token[0])
        needed = needed or text != "" and text[-1] == "'" and token[0] == "'"
        needed = needed or text != "" and text[-1] in "<>" and token[0] in "=>" or text != "" and text[-1].isdigit() and token[0].isdigit()
        text += " " * max(int(needed), 1 if chosen is None else chosen.choice((0, 0, 1, 2)))
        starts.append(len(text))
        text += token
    if chosen is not None:
        text += " " * chosen.choice((0, 0, 1, 3))
    return text, starts
