"""The tokens of a written expression."""

from farlanes.errors import BadSyntax

# What ends a run of other characters.
BREAKS = " *@^()"
COUNTED = ("*", "@", "^", "(")


def token_end(text, at):
    """Where the token or the space that begins here ends."""
    end = at + 1
    if text[at] not in BREAKS:
        while end < len(text) and text[end] not in BREAKS:
            end += 1
    return end


def tokens_of(text):
    """The tokens of a text, each with the index of its first character."""
    tokens = []
    at = 0
    while at < len(text):
        end = token_end(text, at)
        if text[at] != " ":
            tokens.append((at, text[at:end]))
        at = end
    return tokens


class Reader:
    """Takes the tokens of a text one by one, and knows where the last one began."""

    def __init__(self, text, most):
        self.tokens = tokens_of(text)
        self.size = len(text)
        self.most = most
        self.taken = 0
        self.at = 0

    def has_more(self):
        """Tell whether a token is left."""
        return self.taken < len(self.tokens)

    def take(self):
        """The next token."""
        if not self.has_more():
            raise BadSyntax(self.size)
        self.at, token = self.tokens[self.taken]
        self.taken += 1
        if token in COUNTED:
            self.most -= 1
        if self.most < 0:
            raise BadSyntax(self.at)
        return token
