"""Expressions over lane maps: reading, writing, computing and simplifying them."""

from farlanes.algebra import compose, conjugate
from farlanes.errors import BadSyntax, NoName, OtherLanes
from farlanes.maps import check_lanes, identity, lead, swap
from farlanes.names import is_name
from farlanes.numerals import integer_of, natural_of, place_of, place_text
from farlanes.tokens import Reader
from farlanes.travel import power

MOST_SIGNS = 60
# Numbers in an expression are at most so great in size.
MOST_SIZE = 10 ** 18

IDENTITY = ("identity",)
JOINS = {"*": "product", "@": "conjugate"}
SIGNS = {"product": "*", "conjugate": "@"}
# What binds stronger has a greater number; atoms bind strongest.
STRENGTHS = {"product": 1, "conjugate": 2, "power": 3}
ATOM_STRENGTH = 4


def checked(reader, value):
    """What the last token was read as; raise BadSyntax if it could not be."""
    if value is None:
        raise BadSyntax(reader.at)
    return value


def read_natural(reader):
    """A number that is not negative."""
    return checked(reader, natural_of(reader.take(), MOST_SIZE))


def read_integer(reader):
    """A number of either sign."""
    return checked(reader, integer_of(reader.take(), MOST_SIZE))


def read_place(reader):
    """A place."""
    return checked(reader, place_of(reader.take(), MOST_SIZE))


def read_atom(reader, token):
    """The atom that begins with the token that was taken last; it is no parenthesis."""
    if token == "identity":
        return IDENTITY
    if token == "lead":
        return ("lead", read_natural(reader), read_natural(reader))
    if token == "swap":
        return ("swap", read_place(reader), read_place(reader))
    return checked(reader, ("name", token) if is_name(token) else None)


class Growth:
    """The trees that were read so far, and the signs that still join them or enclose them."""

    def __init__(self):
        self.trees = []
        self.waiting = []

    def is_enclosed(self):
        """Tell whether a parenthesis waits for being closed."""
        return "(" in self.waiting

    def settle_signs(self, strength):
        """Join the last trees by the signs behind the last parenthesis that bind at least so strongly."""
        while len(self.waiting) > 0 and self.waiting[-1] != "(":
            word = JOINS[self.waiting[-1]]
            if STRENGTHS[word] < strength:
                return
            self.waiting.pop()
            right = self.trees.pop()
            left = self.trees.pop()
            self.trees.append((word, left, right))

    def join_next(self, sign):
        """Let a sign wait for the tree on its right."""
        self.settle_signs(STRENGTHS[JOINS[sign]])
        self.waiting.append(sign)

    def close(self):
        """Close the last parenthesis."""
        self.settle_signs(0)
        self.waiting.pop()

    def raise_last(self, exponent):
        """Make a power of the last tree."""
        self.trees.append(("power", self.trees.pop(), exponent))


def read_operand(reader, growth):
    """Read an atom with the parentheses that stand before it."""
    token = reader.take()
    while token == "(":
        growth.waiting.append(token)
        token = reader.take()
    growth.trees.append(read_atom(reader, token))


def read_further(reader, growth):
    """Read what stands behind an operand, up to the next operand."""
    token = reader.take()
    if token == "^":
        growth.raise_last(read_integer(reader))
    elif token == ")" and growth.is_enclosed():
        growth.close()
    elif token in JOINS:
        growth.join_next(token)
        read_operand(reader, growth)
    else:
        raise BadSyntax(reader.at)


def parse(text):
    """The tree of a text."""
    reader = Reader(text, MOST_SIGNS)
    growth = Growth()
    read_operand(reader, growth)
    while reader.has_more():
        read_further(reader, growth)
    if growth.is_enclosed():
        raise BadSyntax(len(text))
    growth.settle_signs(0)
    return growth.trees[0]


def operand_text(tree, least):
    """The text of an operand, in parentheses if it binds less than that strongly."""
    text = format_tree(tree)
    return text if STRENGTHS.get(tree[0], ATOM_STRENGTH) >= least else f"({text})"


def format_tree(tree):
    """The formatted text of a tree."""
    word = tree[0]
    if word in SIGNS:
        strength = STRENGTHS[word]
        return f"{operand_text(tree[1], strength)} {SIGNS[word]} {operand_text(tree[2], strength + 1)}"
    if word == "power":
        return f"{operand_text(tree[1], STRENGTHS[word])}^{tree[2]}"
    if word == "name":
        return tree[1]
    if word == "swap":
        return f"swap {place_text(tree[1])} {place_text(tree[2])}"
    return " ".join([str(part) for part in tree])


def named_map(name, names, lanes):
    """The map of a name."""
    if name not in names:
        raise NoName(name)
    lane_map = names[name]
    if lane_map.lanes() != lanes:
        raise OtherLanes()
    return lane_map


def plain_map(atom, lanes):
    """The map of an atom that is no name."""
    if atom[0] == "lead":
        return lead(lanes, atom[1], atom[2])
    if atom[0] == "swap":
        return swap(lanes, atom[1], atom[2])
    return identity(lanes)


def value_of(tree, names, lanes):
    """The value of a tree for a number of lanes that is allowed."""
    word = tree[0]
    if word == "product":
        return compose(value_of(tree[1], names, lanes), value_of(tree[2], names, lanes))
    if word == "conjugate":
        return conjugate(value_of(tree[1], names, lanes), value_of(tree[2], names, lanes))
    if word == "power":
        return power(value_of(tree[1], names, lanes), tree[2])
    if word == "name":
        return named_map(tree[1], names, lanes)
    return plain_map(tree, lanes)


def evaluate(tree, names, *, lanes):
    """The value of a tree for a number of lanes and a dict of named maps."""
    check_lanes(lanes)
    return value_of(tree, names, lanes)


def simple_product(left, right):
    """The simplified product of two simplified trees."""
    if left == IDENTITY:
        return right
    return left if right == IDENTITY else ("product", left, right)


def simple_conjugate(left, right):
    """The simplified conjugate of two simplified trees."""
    return left if IDENTITY in (left, right) else ("conjugate", left, right)


def simple_power(base, exponent):
    """The simplified power of a simplified tree."""
    if base == IDENTITY or exponent == 0:
        return IDENTITY
    if exponent == 1:
        return base
    if base[0] == "power" and abs(base[2] * exponent) <= MOST_SIZE:
        return simple_power(base[1], base[2] * exponent)
    return ("power", base, exponent)


def simplified(tree):
    """A tree with the same value and without superfluous identities and powers."""
    word = tree[0]
    if word == "product":
        return simple_product(simplified(tree[1]), simplified(tree[2]))
    if word == "conjugate":
        return simple_conjugate(simplified(tree[1]), simplified(tree[2]))
    if word == "power":
        return simple_power(simplified(tree[1]), tree[2])
    return IDENTITY if word == "swap" and tree[1] == tree[2] else tree
