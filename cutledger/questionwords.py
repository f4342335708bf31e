"""The words, numbers, texts and signs of a statement, read one by one (point 50)."""

from cutledger.cellcodes import GREATEST, KINDS, LONGEST_TEXT, SIGNS
from cutledger.errors import BadWords
from cutledger.schemas import LETTERS, LONGEST_NAME

WORD = "word"
NUMBER = "number"
TEXT = "text"
SIGN = "sign"
END = "end"

FIGURES = "0123456789"
BLANK = " "
QUOTE = "'"
LONG_SIGNS = ("<>", "<=", ">=")

WORDS = (
    "make", "index", "remove", "put", "drop", "set", "take", "count", "sum", "least", "most", "from", "where", "and",
    "or", "not", "by", "down", "first", "for", "on", "with", "key", "true", "false", "number", "text", "truth",
    "guard", "in",
)


class Token:
    """A word, a number, a text or a sign, the place of its first sign, and what it tells.

    wrong_at is the place of the first sign of a text that is wrong, None if none is.
    """

    def __init__(self, form, at, told, wrong_at=None):
        self.form = form
        self.at = at
        self.told = told
        self.wrong_at = wrong_at


def run_end(text, at, signs):
    """The place behind the run of such signs that begins at a place."""
    end = at
    while end < len(text) and text[end] in signs:
        end += 1
    return end


def read_text(text, at):
    """The token of the text whose quote stands at a place, and the place behind it."""
    signs = []
    end = at + 1
    while end < len(text):
        step = 1
        if text[end] == QUOTE:
            if text[end + 1:end + 2] != QUOTE:
                return (Token(TEXT, at, "".join(signs)), end + 1)
            step = 2
        if len(signs) == LONGEST_TEXT or text[end] not in SIGNS:
            return (Token(TEXT, at, None, end), len(text))
        signs.append(text[end])
        end += step
    return (Token(TEXT, at, None, end), end)


def read_token(text, at):
    """The token whose first sign stands at a place, and the place behind it."""
    if text[at] == QUOTE:
        return read_text(text, at)
    for form, signs in ((WORD, LETTERS), (NUMBER, FIGURES)):
        end = run_end(text, at, signs)
        if end > at:
            return (Token(form, at, text[at:end]), end)
    # Any other sign is one, too, though there may be no place where it can stand.
    end = at + 2 if text[at:at + 2] in LONG_SIGNS else at + 1
    return (Token(SIGN, at, text[at:end]), end)


def tokens_of(text):
    """All tokens of a text, and behind them its end."""
    tokens = []
    at = run_end(text, 0, BLANK)
    while at < len(text):
        token, end = read_token(text, at)
        tokens.append(token)
        at = run_end(text, end, BLANK)
    return [*tokens, Token(END, len(text), None)]


class Reader:
    """The tokens of a statement, and how many of them have been read."""

    def __init__(self, text):
        self.tokens = tokens_of(text)
        self.place = 0

    def ahead(self):
        """The next token."""
        return self.tokens[self.place]

    def where(self):
        """The place of the first sign of the next token."""
        return self.ahead().at

    def is_ahead(self, form, told):
        """Whether the next token is a certain one."""
        token = self.ahead()
        return token.form == form and token.told == told

    def step(self):
        """Read the next token."""
        token = self.ahead()
        self.place += 1
        return token

    def took(self, form, told):
        """Read the next token if it is a certain one; whether it is."""
        if not self.is_ahead(form, told):
            return False
        self.place += 1
        return True

    def took_word(self, word):
        """Read the next token if it is this word; whether it is."""
        return self.took(WORD, word)

    def took_sign(self, sign):
        """Read the next token if it is this sign; whether it is."""
        return self.took(SIGN, sign)

    def need_word(self, word):
        """Read a word that must stand here."""
        if not self.took_word(word):
            raise BadWords(self.where())

    def need_sign(self, sign):
        """Read a sign that must stand here."""
        if not self.took_sign(sign):
            raise BadWords(self.where())

    def need_end(self):
        """Be at the end."""
        if self.ahead().form != END:
            raise BadWords(self.where())

    def read_one_of(self, form, many):
        """Read one of many words or signs, one of which must stand here."""
        token = self.ahead()
        if token.form != form or token.told not in many:
            raise BadWords(token.at)
        return self.step().told

    def read_name(self):
        """Read a name."""
        token = self.ahead()
        if token.form != WORD or token.told in WORDS or len(token.told) > LONGEST_NAME:
            raise BadWords(token.at)
        return self.step().told

    def read_kind(self):
        """Read a kind."""
        return self.read_one_of(WORD, KINDS)

    def read_figures(self):
        """Read a number from 0."""
        token = self.ahead()
        if token.form != NUMBER or int(token.told) > GREATEST:
            raise BadWords(token.at)
        return int(self.step().told)

    def read_below(self):
        """Read a number with a minus sign right ahead of its figures."""
        at = self.where()
        behind = self.tokens[self.place + 1]
        if behind.form != NUMBER or behind.at != at + 1 or int(behind.told) > GREATEST:
            raise BadWords(at)
        self.place += 2
        return -int(behind.told)

    def read_value(self):
        """Read a value."""
        token = self.ahead()
        if token.form == NUMBER:
            return self.read_figures()
        if token.form == TEXT:
            if token.wrong_at is not None:
                raise BadWords(token.wrong_at)
            return self.step().told
        if self.is_ahead(SIGN, "-"):
            return self.read_below()
        return self.read_one_of(WORD, ("true", "false")) == "true"

    def is_value_ahead(self):
        """Whether the next token can only be a value."""
        token = self.ahead()
        return token.form in (NUMBER, TEXT, SIGN) or token.told in ("true", "false")
