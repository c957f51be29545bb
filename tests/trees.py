"""Expressions for the tests, and slow answers about them, as the document has them."""

import re

from farlanes.algebra import compose, conjugate
from farlanes.errors import BadLanes, NoName, OtherLanes
from farlanes.maps import identity, lead, swap
from farlanes.travel import power
from tests.samples import some_maps

MOST = 10 ** 18
TOKEN = re.compile(r"[*@^()]|[^*@^() ]+")
NATURAL = r"(?:0|[1-9][0-9]*)"
WORDS = ("identity", "lead", "swap")
LETTERS = "abcxyz"


def kind_of(token):
    """What a token is."""
    if re.fullmatch(r"[*@^()]", token):
        return token
    if re.fullmatch(r"[a-z]{1,8}", token):
        return token if token in WORDS else "name"
    if re.fullmatch(NATURAL + "|-[1-9][0-9]*", token) and len(token) < 25 and abs(int(token)) <= MOST:
        return "integer"
    if re.fullmatch(rf"{NATURAL}\.{NATURAL}", token) and all(len(n) < 25 and int(n) <= MOST for n in token.split(".")):
        return "place"
    return "invalid"


def slow_index(text):
    """The index that BadSyntax has for a text, or None if it can be parsed."""
    wanted, depth, signs = ["operand"], 0, 0
    for match in TOKEN.finditer(text):
        token, kind = match.group(), kind_of(match.group())
        signs += kind in ("*", "@", "^", "(")
        state = wanted.pop(0)
        if signs > 60 and kind in ("*", "@", "^", "("):
            return match.start()
        if state == "operand" and kind == "(":
            depth, wanted = depth + 1, ["operand"]
        elif state == "operand" and kind in ("name", "identity"):
            wanted = ["more"]
        elif state == "operand" and kind == "lead":
            wanted = ["natural", "natural", "more"]
        elif state == "operand" and kind == "swap":
            wanted = ["place", "place", "more"]
        elif state == "more" and kind == ")" and depth > 0:
            depth, wanted = depth - 1, ["more"]
        elif state == "more" and kind in ("*", "@"):
            wanted = ["operand"]
        elif state == "more" and kind == "^":
            wanted = ["integer", "more"]
        elif state == "natural" and kind == "integer" and int(token) >= 0 or state == kind in ("integer", "place"):
            continue
        else:
            return match.start()
    return None if wanted == ["more"] and depth == 0 else len(text)


def last_outside(tokens, sign):
    """The index of the last such token outside of all parentheses, or None."""
    depth, found = 0, None
    for at, token in enumerate(tokens):
        depth += (token == "(") - (token == ")")
        if depth == 0 and token == sign:
            found = at
    return found


def read_place(token):
    return tuple(int(part) for part in token.split("."))


def slow_tree(tokens):
    """The tree of tokens that can be parsed, by splitting at the last operator that binds least."""
    for sign, word in (("*", "product"), ("@", "conjugate")):
        at = last_outside(tokens, sign)
        if at is not None:
            return (word, slow_tree(tokens[:at]), slow_tree(tokens[at + 1:]))
    if len(tokens) > 2 and tokens[-2] == "^":
        return ("power", slow_tree(tokens[:-2]), int(tokens[-1]))
    if tokens[0] == "(":
        return slow_tree(tokens[1:-1])
    if tokens[0] == "lead":
        return ("lead", int(tokens[1]), int(tokens[2]))
    if tokens[0] == "swap":
        return ("swap", read_place(tokens[1]), read_place(tokens[2]))
    return ("identity",) if tokens[0] == "identity" else ("name", tokens[0])


def spaced(tokens):
    """The tokens as a formatted text has them."""
    text, last = "", "("
    for token in tokens:
        words = not re.fullmatch(r"[*@^()]", token) and not re.fullmatch(r"[*@^()]", last)
        text += (" " if words or token in "*@" or last in "*@" else "") + token
        last = token
    return text


def drawn_atom(source, lanes, reach=4):
    """An atom that may be wrong for the lanes."""
    kind = source.choice(("identity", "lead", "swap", "swap", "name", "name", "name"))
    if kind == "lead":
        return ("lead", source.randrange(lanes), source.randrange(lanes + (source.random() < 0.1)))
    if kind == "swap":
        return ("swap", *[(source.randrange(lanes), source.randrange(reach)) for each in range(2)])
    return ("name", source.choice(LETTERS)) if kind == "name" else ("identity",)


def drawn_tree(source, lanes, levels, exponents=(-3, -2, -1, 0, 1, 2, 3)):
    """A tree of at most so many levels."""
    if levels == 1 or source.random() < 0.15:
        return drawn_atom(source, lanes)
    word = source.choice(("product", "product", "conjugate", "power"))
    left = drawn_tree(source, lanes, levels - 1, exponents)
    if word == "power":
        return (word, left, source.choice(exponents))
    return (word, left, drawn_tree(source, lanes, levels - 1, exponents))


def nested(levels, side, word="product"):
    """A tree of so many levels that goes on in the left or the right operand."""
    tree = ("name", "a")
    for level in range(levels - 1):
        other = ("name", LETTERS[level % len(LETTERS)])
        if word == "power":
            tree = ("power", tree, (level % 5) - 2)
        else:
            tree = (word, tree, other) if side == "left" else (word, other, tree)
    return tree


def drawn_names(seed, lanes):
    """A dict of named maps, mostly of these lanes; one name is missing and one map has other lanes."""
    made = some_maps(seed, lanes, 4, 2, 2)
    names = dict(zip("abcx", made))
    names["y"] = some_maps(seed, lanes % 6 + 1, 1)[0]
    return names


def slow_value(tree, names, lanes):
    """The value of a tree by the functions that it names, the left operand first."""
    if not 1 <= lanes <= 6:
        raise BadLanes()
    word = tree[0]
    if word == "identity":
        return identity(lanes)
    if word == "lead":
        return lead(lanes, tree[1], tree[2])
    if word == "swap":
        return swap(lanes, tree[1], tree[2])
    if word == "name":
        if tree[1] not in names:
            raise NoName(tree[1])
        if names[tree[1]].lanes() != lanes:
            raise OtherLanes()
        return names[tree[1]]
    left = slow_value(tree[1], names, lanes)
    if word == "power":
        return power(left, tree[2])
    right = slow_value(tree[2], names, lanes)
    return compose(left, right) if word == "product" else conjugate(left, right)


def outcome(action, *values, **named):
    """The text of the returned map, or the class and the attributes of the error."""
    try:
        return str(action(*values, **named))
    except (ValueError, LookupError) as error:
        return type(error), vars(error)


def subtrees(tree):
    """All trees in a tree, itself included."""
    found = [tree]
    if tree[0] in ("product", "conjugate", "power"):
        for part in tree[1:]:
            if isinstance(part, tuple):
                found += subtrees(part)
    return found


def levels_of(tree):
    """How many levels a tree has."""
    parts = [part for part in tree[1:] if tree[0] in ("product", "conjugate", "power") and isinstance(part, tuple)]
    return 1 + max([levels_of(part) for part in parts], default=0)


def tuples_in(value):
    """How many tuples a tree consists of."""
    return 1 + sum(tuples_in(part) for part in value if isinstance(part, tuple))
