"""A desk and its answers, against a literal reading of the document."""

import re
import unittest

from farlanes.conjugacy import conjugacy
from farlanes.desk import Desk
from farlanes.errors import LaneError, Missing, NothingLeft
from farlanes.expressions import format_tree
from farlanes.maps import identity, lead, swap
from farlanes.relations import order
from farlanes.store import Store
from farlanes.travel import power
from tests.models import BAD_NAMES, MOST, drawn_maps, told_store
from tests.samples import FAR, numbers
from tests.trees import TOKEN, drawn_tree, kind_of, slow_index, slow_tree, slow_value

ALL_LANES = range(1, 7)
WORD = re.compile(r"[^ ]+")
ENDS = {"put": "place", "move": "integer", "rename": "word"}


def values(store, texts):
    """The values of expressions, or None if one of them cannot be parsed."""
    if any(slow_index(text) is not None for text in texts):
        return None
    names = {name: store.lane_map(name) for name in store.maps()}
    return [slow_value(slow_tree(TOKEN.findall(text)), names, store.lanes()) for text in texts]


def answer_to_words(store, words):
    """The answer to a line without an expression, or None."""
    if words in (["undo"], ["redo"]):
        store.undo() if words == ["undo"] else store.redo()
        return "done"
    if words == ["beads"]:
        return " ".join(bead for bead, place in store.beads()) or "none"
    if words == ["maps"]:
        return " ".join(store.maps()) or "none"
    if len(words) == 2 and words[0] == "where":
        return "{}.{}".format(*store.where(words[1]))
    if len(words) == 2 and words[0] == "show":
        return str(store.lane_map(words[1]))
    if len(words) == 2 and words[0] in ("take", "drop"):
        store.do(tuple(words))
        return "done"
    if len(words) != 3 or words[0] not in ENDS or ENDS[words[0]] not in ("word", kind_of(words[2])):
        return None
    last = {"put": lambda text: tuple(map(int, text.split("."))), "move": int, "rename": str}[words[0]](words[2])
    store.do((words[0], words[1], last))
    return "done"


def slow_answer(store, line):
    """The answer to a line, or None; raises what is answered by no and a word."""
    let, told, two = re.fullmatch(r"(?s)let ([^ ]+) (.*)", line), line[:6] == "order ", line.split(" ")[0]
    if let:
        found = values(store, [let[2]])
        if found:
            store.define(let[1], found[0])
        return found and "done"
    if told:
        found = values(store, [line[6:]])
        return found and str(order(found[0]) or "none")
    if two in ("same", "alike"):
        texts = line[len(two) + 1:].split(" , ")
        found = values(store, texts) if len(texts) == 2 else None
        if not found:
            return None
        same = found[0] == found[1] if two == "same" else conjugacy(*found)[0] == "plan"
        return "yes" if same else "no"
    words = line.split(" ")
    return answer_to_words(store, words) if all(words) else None


def expected(store, line):
    """The answer that the document asks for; does to the store what the line does."""
    try:
        return slow_answer(store, line) or "what"
    except (LaneError, Missing, NothingLeft) as error:
        return f"no {error.word}"


def drawn_expression(source, lanes):
    """An expression that may go wrong, with spaces anywhere."""
    text = format_tree(drawn_tree(source, lanes, source.randint(1, 3), (-2, -1, 0, 1, 2, 3, MOST)))
    if source.random() < 0.15:
        at = source.randrange(len(text))
        text = text[:at] + source.choice(("", "?", " ", "*", ")", "  ", "9", ",", " , ", "\n")) + text[at + 1:]
    if source.random() < 0.3:
        text = text.replace(" ", source.choice(("  ", " "))).replace("(", "( ")
    return " " * source.choice((0, 0, 0, 1, 2)) + text + " " * source.choice((0, 0, 0, 1, 2))


def drawn_line(source, lanes):
    """A line that may be wrong in any way."""
    name, new = [source.choice(list("abcxyz") + (BAD_NAMES if source.random() < 0.2 else [])) for each in range(2)]
    place = f"{source.randrange(lanes + 1)}.{source.choice((0, 0, 0, 1, 1, 2, MOST, MOST + 1))}"
    count = source.choice((0, 1, -1, 2, 5, MOST, -MOST, MOST + 1, "-0", "01", "x", "1.0", ""))
    one, other = drawn_expression(source, lanes), drawn_expression(source, lanes)
    lines = [f"put {name} {place}", f"put {name} {place}", f"take {name}", f"rename {name} {new}", f"drop {name}",
             f"move {name} {count}", f"move {name} {count}", f"let {name} {one}", f"let {name} {one}", "undo", "redo",
             f"where {name}", f"show {name}", "beads", "maps", f"order {one}", f"same {one} , {other}",
             f"same {one} , {one}", f"alike {one} , {other}", f"alike {one} , {one}"]
    line = source.choice(lines)
    if source.random() < 0.12:
        words = line.split(" ")
        at = source.randrange(len(words))
        extra = source.choice(("", "a", "x", "0.0", "1", ",", "put", "undo", "-", "A", "\n"))
        line = " ".join(source.choice((
            words[:at] + words[at + 1:], words[:at] + [extra] + words[at:], words[:at] + [extra] + words[at + 1:],
            words + [extra], [extra] + words, words[:at] + [words[at]] + words[at:],
        )))
    return line


class Desks(unittest.TestCase):
    def setUp(self):
        self.store = Store(2)
        self.desk = Desk(self.store)

    def say(self, *pairs):
        """Each line has this answer, and the literal reading has the same answer and effect."""
        for line, answer in pairs:
            twin = self.store.twin()
            self.assertEqual(self.desk.say(line), answer, line)
            self.assertEqual(expected(twin, line), answer, line)
            self.assertEqual(told_store(twin), told_store(self.store))

    def all_what(self, *lines):
        self.say(*[(line, "what") for line in lines])


class Steps(Desks):
    def test_put_where_and_beads(self):
        self.say(("beads", "none"), ("put b 0.3", "done"), ("put a 1.0", "done"), ("where b", "0.3"),
                 ("where a", "1.0"),
                 ("beads", "a b"), ("put a 0.9", "no Taken"), ("put c 0.3", "no Held"), ("put c 2.0", "no BadPlace"),
                 ("put A 0.9", "no BadName"), ("put lead 0.9", "no BadName"), ("put abcdefghi 0.9", "no BadName"),
                 ("where c", "no NoBead"), ("where A", "no NoBead"), (f"put c 1.{MOST}", "done"),
                 ("where c", f"1.{MOST}"),
                 ("put d\n 0.7", "no BadName"), ("where a\n", "no NoBead"))
        self.all_what(f"put d 1.{MOST + 1}", "put d 1", "put d 1.", "put d .1", "put d 01.1", "put d 1.01",
                      "put d -1.0",
                      "put d 1.-1", "put d", "put", "put d 1.1 ", "put  d 1.1", " put d 1.1", "put d  1.1",
                      "put d 1.1 1",
                      "put 1.1", "Put d 1.1", "put d (1,1)", "put d 1 1", "where", "where ", "where a b", "where  a",
                      "beads ", "beads a", "bead", " beads", "put d 1.1\n", "beads\n")

    def test_take_and_rename(self):
        self.say(("put a 0.0", "done"), ("let x identity", "done"), ("rename a b", "done"), ("rename x y", "done"),
                 ("beads", "b"), ("maps", "y"), ("rename b b", "no Taken"), ("rename b y", "no Taken"),
                 ("rename q r", "no NoName"), ("rename b B", "no BadName"), ("rename Q R", "no NoName"),
                 ("take y", "no NoBead"), ("take b", "done"), ("take b", "no NoBead"), ("beads", "none"))
        self.all_what("take", "take ", "take a b", "rename", "rename a", "rename a ", "rename a b c", "rename  a b",
                      "taken a")

    def test_maps(self):
        self.say(("maps", "none"), ("let x lead 0 1", "done"), ("let w x^2", "done"), ("maps", "w x"),
                 ("show x", "-1 1.0 | 1"), ("show w", "-2 1.1 1.0 | 2"), ("show y", "no NoMap"), ("show X", "no NoMap"),
                 ("drop y", "no NoMap"), ("drop x", "done"), ("maps", "w"), ("show x", "no NoMap"))
        self.all_what("maps ", "maps x", "show", "show ", "show w w", "drop", "drop w w", "show  w", "map")

    def test_move(self):
        self.say(("put a 0.2", "done"), ("let x lead 0 1", "done"), ("move x 4", "done"), ("where a", "1.1"),
                 ("move x -4", "done"), ("where a", "0.2"), ("move x 0", "done"), (f"move x {MOST}", "done"),
                 (f"move x -{MOST}", "done"), ("where a", "0.2"), ("move y 1", "no NoMap"), ("move a 1", "no NoMap"),
                 ("move X 1", "no NoMap"))
        self.all_what("move x", "move x ", "move x 01", "move x -0", "move x +1", "move x 1.0", "move x one",
                      "move x 1 1",
                      f"move x {MOST + 1}", f"move x -{MOST + 1}", f"move y {FAR}", "move x - 1", "move 1",
                      "move x 1\n",
                      "move")

    def test_undo_and_redo(self):
        self.say(("undo", "no NothingLeft"), ("redo", "no NothingLeft"), ("put a 0.0", "done"), ("undo", "done"),
                 ("beads", "none"), ("redo", "done"), ("beads", "a"), ("redo", "no NothingLeft"), ("undo", "done"),
                 ("put b 0.0", "done"), ("redo", "no NothingLeft"), ("undo", "done"), ("undo", "no NothingLeft"))
        self.all_what("undo ", "undo 1", "redo ", "redo a", " undo", "undone", "UNDO")

    def test_full_stores(self):
        for at in range(40):
            self.desk.say(f"put {chr(97 + at // 26)}{chr(97 + at % 26)} 0.{at}")
        self.say(("put x 0.40", "no Full"), ("put x 0.39", "no Held"))
        for at in range(12):
            self.desk.say(f"let z{chr(97 + at)} identity")
        self.say(("let x identity", "no Full"), ("drop za", "done"), ("let x identity", "done"))


class Expressions(Desks):
    def test_let(self):
        self.say(("let x lead 0 1 ^ 3", "done"), ("show x", "-3 1.2 1.1 1.0 | 3"), ("let y   x * x ^ -1  ", "done"),
                 ("show y", "0 | 0"), ("let z  ( x )", "done"), ("let x x", "no Taken"), ("let X x", "no BadName"),
                 ("let swap x", "no BadName"), ("let abcdefghi x", "no BadName"), ("let w nobody", "no NoName"),
                 ("let w lead 0 2", "no BadLane"), ("let w swap 0.0 2.0", "no BadPlace"),
                 ("let w x ^ 1000", "no TooWide"),
                 ("let w\n x", "no BadName"), ("let - x", "no BadName"))
        self.all_what("let", "let ", "let w", "let w ", "let w  ", "let  x", "let w 5", "let w x y", "let w x *",
                      "let w (x",
                      "let w x , x", "let w x\n", "let  w x", "let w ?", "let w x ^ 01", "Let w x", "let w lead 0",
                      "let W 5")

    def test_let_computes_first(self):
        self.say(("let x identity", "done"), ("let x nobody", "no NoName"), ("let X nobody", "no NoName"),
                 ("let x lead 0 0", "no BadLane"), ("let X swap 0.0 0.5000", "no TooWide"),
                 ("let x identity", "no Taken"),
                 ("let X identity", "no BadName"), ("let x 5", "what"), ("let X 5", "what"))

    def test_order(self):
        self.say(("let x lead 0 1", "done"), ("order x", "none"), ("order identity", "1"), ("order swap 0.0 1.1", "2"),
                 ("order  swap 0.0 1.1 * swap 1.1 0.2 ", "3"), ("order x ^ 0", "1"), ("order y", "no NoName"),
                 ("order x * lead 0 0", "no BadLane"))
        self.all_what("order", "order ", "order  ", "order 5", "order x x", "order x , x", "orders x", " order x",
                      "order x\n")

    def test_same(self):
        self.say(("let x lead 0 1", "done"), ("same x , x", "yes"), ("same x , lead 0 1", "yes"),
                 ("same x , x ^ 2", "no"),
                 ("same   x  ,  x ^ 1  ", "yes"), ("same x*x , x^2", "yes"), ("same x , nobody", "no NoName"),
                 ("same nobody , x", "no NoName"), ("same nobody , lead 0 0", "no NoName"),
                 ("same lead 0 0 , nobody", "no BadLane"), ("same swap 0.0 0.5000 , swap 9.9 9.9", "no TooWide"))
        self.all_what("same", "same x", "same x ", "same x ,", "same x , ", "same x,x", "same x ,x", "same x, x",
                      "same , x",
                      "same  , x", "same x , x , x", "same x , , x", "same x , 5", "same 5 , x", "same nobody , 5",
                      "same 5 , nobody", "same x x", "same x  x", "same x , x\n", "same x\n, x", "sames x , x", "same")

    def test_alike(self):
        self.say(("let x lead 0 1", "done"), ("alike x , x", "yes"), ("alike x , x ^ -1", "no"),
                 ("alike x , x ^ 2", "no"),
                 ("alike x @ swap 0.0 1.4 , x", "yes"), ("alike swap 0.0 0.1 , swap 1.5 0.9", "yes"),
                 ("alike identity , swap 0.0 0.1", "no"), ("alike nobody , lead 0 0", "no NoName"),
                 ("alike lead 0 0 , nobody", "no BadLane"), ("alike x ^ 1000 , x ^ 1000", "yes"),
                 ("alike x ^ 1001 , x ^ 1001", "no TooMany"), ("alike x ^ 1001 , x ^ 1002", "no"))
        self.all_what("alike", "alike x", "alike x , ", "alike x,x", "alike x , x , x", "alike 5 , x", "alike x , 5",
                      "like x , x")

    def test_names_of_the_store(self):
        self.say(("put a 0.0", "done"), ("order a", "no NoName"), ("let x swap 0.0 0.1", "done"), ("order x", "2"),
                 ("rename x y", "done"), ("order x", "no NoName"), ("order y", "2"), ("drop y", "done"),
                 ("order y", "no NoName"), ("undo", "done"), ("order y", "2"))

    def test_many_signs(self):
        self.say(("order " + "*".join(["identity"] * 61), "1"), ("order " + "*".join(["identity"] * 62), "what"))


class Others(Desks):
    def test_other_lines(self):
        self.all_what("", " ", "\n", "what", "done", "help", "define x identity", "put", ",", "steps", "history",
                      "twin",
                      "first x", "let", "undo redo", "0", "a b c d e f", "page", "lanes", "x" * 20000, "show\nx",
                      "undo\n")

    def test_len_counts_every_line(self):
        self.assertEqual(len(self.desk), 0)
        for many, line in enumerate(("put a 0.0", "put a 0.0", "nonsense", "", "order nobody", "undo", "undo"),
                                    start=1):
            self.desk.say(line)
            self.assertEqual(len(self.desk), many)

    def test_the_very_store(self):
        self.assertIs(self.desk.store(), self.store)
        other = Desk(self.store)
        self.assertIs(other.store(), self.store)
        self.desk.say("put a 0.0")
        self.assertEqual(other.say("where a"), "0.0")
        self.store.put("b", (1, 1))
        self.assertEqual((self.desk.say("beads"), other.say("beads")), ("a b", "a b"))
        other.say("undo")
        self.assertEqual((self.desk.say("beads"), self.store.steps()), ("a", (1, 1)))
        self.store.redo()
        self.store.define("x", swap(2, (0, 0), (0, 1)))
        self.assertEqual(other.say("order x"), "2")
        self.assertEqual((len(self.desk), len(other)), (3, 4))

    def test_lines_count_as_steps(self):
        self.desk.say("put a 0.0")
        self.desk.say("let x lead 0 1")
        self.desk.say("move x 2")
        self.desk.say("put a 0.0")
        self.desk.say("order x")
        self.assertEqual(self.store.steps(), (3, 0))
        self.assertEqual([count for made, count in self.store.history()], [2])


class Drawn(unittest.TestCase):
    def test_drawn_lines(self):
        seen = {}
        for lanes in ALL_LANES:
            source = numbers(9700 + lanes)
            for game in range(30):
                store = Store(lanes)
                for name, made in zip("xy", drawn_maps(970 + game, lanes)):
                    store.define(name, made)
                twin = store.twin()
                desks = [Desk(store), Desk(store)]
                for turn in range(60):
                    line = drawn_line(source, lanes)
                    desk = source.choice(desks)
                    answer = desk.say(line)
                    self.assertEqual(answer, expected(twin, line), line)
                    self.assertTrue(store == twin)
                    self.assertEqual(store.steps(), twin.steps())
                    seen[answer] = True
                self.assertEqual(told_store(store), told_store(twin))
                self.assertEqual(len(desks[0]) + len(desks[1]), 60)
        wanted = {"done", "what", "yes", "no", "none", "no NoBead", "no NoMap", "no NoName", "no Taken", "no BadName"}
        wanted |= {"no Held", "no BadPlace", "no BadLane", "no NothingLeft", "no TooWide"}
        self.assertLessEqual(wanted, set(seen))


class Calls(unittest.TestCase):
    def test_by_name(self):
        desk = Desk(store=Store(1))
        self.assertEqual(desk.say(line="put a 0.3"), "done")
        self.assertEqual(desk.say(line="where a"), "0.3")

    def test_maps_stay(self):
        store = Store(2)
        made = power(lead(2, 0, 1), 3)
        store.define("x", made)
        desk = Desk(store)
        for line in ("let y x ^ 2", "order x", "same x , y", "alike x , x", "let z x * identity"):
            desk.say(line)
        self.assertTrue(store.lane_map("x") == made)
        self.assertTrue(store.lane_map("z") == made)
        self.assertTrue(made == power(lead(2, 0, 1), 3))
        self.assertFalse(store.lane_map("y") == identity(2))


if __name__ == "__main__":
    unittest.main()
