"""parse: the tree of a text, or where it goes wrong."""

import unittest

from farlanes.errors import BadSyntax
from farlanes.expressions import MOST_SIGNS, format_tree, parse
from tests.samples import FAR, numbers, raised
from tests.trees import MOST, TOKEN, drawn_tree, levels_of, slow_index, slow_tree, spaced

A, B, C, D = [("name", letter) for letter in "abcd"]
ODD_TOKENS = (
    "* @ ^ ( ) a b identity lead swap 0 1 -1 -0 00 01 1.2 0.0 -1.0 1.-1 1. .1 . 1.2.3 A aB a1 , - + -- \n a\n "
    "longnames 1000000000000000000 1000000000000000001 -1000000000000000000 -1000000000000000001 0.1000000000000000000 "
    "0.1000000000000000001 | _ = 1e3 +1 leads ident"
).split(" ")


class Parsed(unittest.TestCase):
    def check(self, text):
        """The tree or the index is the one that the slow answer has; tells the index."""
        index = slow_index(text)
        if index is None:
            self.assertEqual(parse(text), slow_tree(TOKEN.findall(text)), text)
        else:
            self.assertEqual(raised(parse, text), (BadSyntax, {"at": index}), text)
        return index


class Forms(Parsed):
    def test_atoms(self):
        cases = {
            "a": A,
            "identity": ("identity",),
            "lead 0 1": ("lead", 0, 1),
            "lead 5 5": ("lead", 5, 5),
            "swap 0.1 2.3": ("swap", (0, 1), (2, 3)),
            "swap 0.0 0.0": ("swap", (0, 0), (0, 0)),
            "(a)": A,
            "( ( a))": A,
            "  a  ": A,
            f"lead {MOST} 0": ("lead", MOST, 0),
            f"swap {MOST}.{MOST} 0.0": ("swap", (MOST, MOST), (0, 0)),
        }
        for text, tree in cases.items():
            self.assertEqual(parse(text), tree)
            self.check(text)

    def test_operators(self):
        cases = {
            "a * b": ("product", A, B),
            "a*b*c": ("product", ("product", A, B), C),
            "a*(b*c)": ("product", A, ("product", B, C)),
            "a@b@c": ("conjugate", ("conjugate", A, B), C),
            "a @ (b @ c)": ("conjugate", A, ("conjugate", B, C)),
            "a^2^-3": ("power", ("power", A, 2), -3),
            "a * b @ c": ("product", A, ("conjugate", B, C)),
            "a @ b * c": ("product", ("conjugate", A, B), C),
            "(a*b)@c": ("conjugate", ("product", A, B), C),
            "a @ b ^ 2": ("conjugate", A, ("power", B, 2)),
            "(a @ b) ^ 2": ("power", ("conjugate", A, B), 2),
            "a * b ^ 0": ("product", A, ("power", B, 0)),
            "lead 0 1^2": ("power", ("lead", 0, 1), 2),
            "lead 0 1 ^ 2 ^ 3 @ swap 0.0 1.1^4": (
                "conjugate", ("power", ("power", ("lead", 0, 1), 2), 3), ("power", ("swap", (0, 0), (1, 1)), 4)
            ),
            "a*b@c*d": ("product", ("product", A, ("conjugate", B, C)), D),
        }
        for text, tree in cases.items():
            self.assertEqual(parse(text), tree)
            self.check(text)

    def test_names(self):
        for name in ("a", "z", "ab", "leads", "leader", "lea", "swaps", "swa", "identit", "abcdefgh", "zzzzzzzz", "id"):
            self.assertEqual(parse(name), ("name", name))
            self.assertEqual(parse(f"({name} )^2"), ("power", ("name", name), 2))
        for wrong in ("abcdefghi", "identitys", "A", "aB", "Ab", "a1", "1a", "a_b", "a.b", "a-b", "", "LEAD", "a\n"):
            self.assertEqual(raised(parse, wrong), (BadSyntax, {"at": 0}))
            self.assertEqual(raised(parse, "a * " + wrong), (BadSyntax, {"at": 4}))

    def test_the_three_words_are_no_names(self):
        self.assertEqual(raised(parse, "lead"), (BadSyntax, {"at": 4}))
        self.assertEqual(raised(parse, "swap ^ 2"), (BadSyntax, {"at": 5}))
        self.assertEqual(raised(parse, "lead lead 1"), (BadSyntax, {"at": 5}))
        self.assertEqual(parse("identity ^ 2"), ("power", ("identity",), 2))

    def test_numbers(self):
        for number in (0, 1, -1, 9, 10, -10, MOST - 1, MOST, -MOST):
            self.assertEqual(parse(f"a^{number}"), ("power", A, number))
        for wrong in ("-0", "00", "01", "-01", "+1", "--1", "1-", "1.0", f"{MOST + 1}", f"-{MOST + 1}", f"{FAR}", "x",
                      "9" * 5000, "-", "- 1", "1_0", "1e1", "1,0", "a", "(1)", "1\n", "0x1"):
            self.assertEqual(raised(parse, f"a^{wrong}"), (BadSyntax, {"at": 2}), wrong)

    def test_lanes_of_a_lead(self):
        for number in (0, 1, 6, MOST):
            self.assertEqual(parse(f"lead {number} {number}"), ("lead", number, number))
        for wrong in ("-1", "-0", "01", "1.0", f"{MOST + 1}", "a", "lead", "(", ")", "*", "^", "@"):
            self.assertEqual(raised(parse, f"lead {wrong} 1"), (BadSyntax, {"at": 5}), wrong)
            self.assertEqual(raised(parse, f"lead 1 {wrong}"), (BadSyntax, {"at": 7}), wrong)

    def test_places_of_a_swap(self):
        for wrong in ("-1.0", "0.-1", "0", "0.", ".0", "0.0.0", "00.0", "0.00", f"{MOST + 1}.0", f"0.{MOST + 1}", "a",
                      "0,0", "-0.0", "0.-0", "+0.0", "swap", "(", "0.0\n", "1.a"):
            self.assertEqual(raised(parse, f"swap {wrong} 0.0"), (BadSyntax, {"at": 5}), wrong)
            self.assertEqual(raised(parse, f"swap 0.0 {wrong}"), (BadSyntax, {"at": 9}), wrong)
        self.assertEqual(raised(parse, "swap 0 . 0 0.0"), (BadSyntax, {"at": 5}))

    def test_spaces(self):
        tight = "(a*b)@lead 0 1^-2*swap 0.0 1.1"
        wide = "  (  a  *  b  )  @  lead   0  1  ^  -2  *  swap   0.0   1.1  "
        self.assertEqual(parse(tight), parse(wide))
        self.assertEqual(raised(parse, "a b"), (BadSyntax, {"at": 2}))
        self.assertEqual(raised(parse, "a ^ - 2"), (BadSyntax, {"at": 4}))
        self.assertEqual(raised(parse, "le ad 0 1"), (BadSyntax, {"at": 3}))

    def test_newlines(self):
        for text, at in (("a\n", 0), ("\na", 0), ("a \n", 2), ("a *\nb", 3), ("a\n*b", 0), ("lead 0\n1", 5), ("\n", 0)):
            self.assertEqual(raised(parse, text), (BadSyntax, {"at": at}), text)

    def test_tokens_that_are_missing_at_the_end(self):
        for text in ("", " ", "   ", "a *", "a * ", "a @", "a ^", "a ^  ", "(", "((", "(a", "(a * b", "lead", "lead 0",
                     "lead 0 ", "swap", "swap 0.0", "a * (", "(a) * (b", "a * b @ ", "((a)", "a^2^"):
            self.assertEqual(raised(parse, text), (BadSyntax, {"at": len(text)}), text)

    def test_tokens_that_cannot_stand_there(self):
        cases = {"a * * b": 4, ")": 0, "a)": 1, "(a))": 3, "()": 1, "* a": 0, "a ^ b": 4, "a (b)": 2, "(a) b": 4,
                 "(a)(b)": 3, "a 2": 2, "2": 0, "1.2": 0, "a @ @": 4, "lead 0 1 2": 9, "swap 0.0 0.0 0.0": 13,
                 "a ^ 2 3": 6, "a ^ ^": 4, "a $ b": 2, "a , b": 2, "a*?": 2, "? * )": 0, "identity identity": 9}
        for text, at in cases.items():
            self.assertEqual(raised(parse, text), (BadSyntax, {"at": at}), text)
            self.check(text)


class Limits(Parsed):
    def test_the_limit(self):
        self.assertEqual(MOST_SIGNS, 60)

    def test_many_signs(self):
        for many in (59, 60, 61, 62):
            texts = {
                " * ".join(["a"] * (many + 1)): 2 + 4 * 60,
                "@".join(["a"] * (many + 1)): 1 + 2 * 60,
                "a" + "^2" * many: 1 + 2 * 60,
                "(" * many + "a" + ")" * many: 60,
            }
            for text, at in texts.items():
                self.assertEqual(raised(parse, text), None if many <= 60 else (BadSyntax, {"at": at}))
                self.check(text)

    def test_signs_of_several_sorts(self):
        for many in (59, 60, 61, 62):
            source = numbers(6000 + many)
            for turn in range(60):
                text, signs, depth = "", 0, 0
                while signs < many:
                    while signs < many - 1 and source.random() < 0.3:
                        text, signs, depth = text + "(", signs + 1, depth + 1
                    text += "a"
                    if depth and source.random() < 0.4:
                        text, depth = text + ")", depth - 1
                    if source.random() < 0.5 and signs < many - 1:
                        text, signs = text + "^3", signs + 1
                    text, signs = text + source.choice("*@"), signs + 1
                text += "b" + ")" * depth
                self.assertEqual(self.check(text) is None, many <= 60)

    def test_an_earlier_fault_comes_first(self):
        self.assertEqual(raised(parse, "a a" + "*a" * 70), (BadSyntax, {"at": 2}))
        self.assertEqual(raised(parse, "a" + "*a" * 61 + " ?"), (BadSyntax, {"at": 121}))
        self.assertEqual(raised(parse, "a" + "*a" * 60 + " ?"), (BadSyntax, {"at": 122}))
        self.assertEqual(raised(parse, "(" * 61), (BadSyntax, {"at": 60}))
        self.assertEqual(raised(parse, "(" * 60), (BadSyntax, {"at": 60}))
        self.assertEqual(raised(parse, "(" * 60 + "  "), (BadSyntax, {"at": 62}))

    def test_closing_parentheses_do_not_count(self):
        self.assertEqual(parse("(" * 59 + "a" + ")" * 59 + "*b"), ("product", A, B))

    def test_levels(self):
        tree = parse("a" + "^2" * 60)
        self.assertEqual(levels_of(tree), 61)

    def test_long_texts(self):
        self.assertEqual(raised(parse, "a" * 20000), (BadSyntax, {"at": 0}))
        self.assertEqual(raised(parse, " " * 20000), (BadSyntax, {"at": 20000}))
        self.assertEqual(parse(" " * 19999 + "a"), A)
        self.assertEqual(raised(parse, "a ^ " + "1" * 19000), (BadSyntax, {"at": 4}))


class Drawn(Parsed):
    def test_formatted_trees_with_other_spaces_and_parentheses(self):
        for lanes in range(1, 7):
            source = numbers(6010 + lanes)
            for turn in range(60):
                tree = drawn_tree(source, lanes, 4)
                tokens = TOKEN.findall(format_tree(tree))
                text = "".join([" " * source.randint(0, 2) + token + " " * source.randint(1, 2) for token in tokens])
                self.assertEqual(parse(text), tree)
                self.assertEqual(parse(f"( ({text}) )"), tree)
                self.assertEqual(parse(spaced(tokens)), tree)
                self.check(text)

    def test_changed_texts(self):
        seen = {}
        for lanes in range(1, 7):
            source = numbers(6020 + lanes)
            for turn in range(150):
                tokens = TOKEN.findall(format_tree(drawn_tree(source, lanes, 4)))
                at, other = source.randrange(len(tokens)), source.randrange(len(tokens))
                extra = source.choice(ODD_TOKENS)
                changed = [
                    tokens[:at] + tokens[at + 1:],
                    tokens[:at] + [tokens[at]] + tokens[at:],
                    tokens[:at] + [extra] + tokens[at:],
                    tokens[:at] + [extra] + tokens[at + 1:],
                    tokens[:at] + [tokens[other]] + tokens[at + 1:],
                    tokens[:at],
                ]
                for each in changed:
                    for gap in (" ", "  ", ""):
                        seen[self.check(gap.join(each)) is None] = True
        self.assertEqual(sorted(seen), [False, True])

    def test_drawn_tokens(self):
        source = numbers(6030)
        for turn in range(4000):
            tokens = [source.choice(ODD_TOKENS) for each in range(source.randint(1, 5))]
            self.check(source.choice((" ", "")).join(tokens))


class Calls(unittest.TestCase):
    def test_by_name(self):
        self.assertEqual(parse(text="a"), A)
        self.assertEqual(raised(parse, text="?"), (BadSyntax, {"at": 0}))

    def test_equal_calls(self):
        text = "(a * lead 0 1)^2 @ swap 0.0 1.1"
        self.assertEqual(parse(text), parse(text))


if __name__ == "__main__":
    unittest.main()
