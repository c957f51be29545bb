"""A desk that answers lines for a store."""

from farlanes.conjugacy import conjugacy
from farlanes.errors import BadSyntax, LaneError, Missing, NothingLeft
from farlanes.expressions import MOST_SIZE, evaluate, parse
from farlanes.notation import format_map
from farlanes.numerals import integer_of, place_of, place_text
from farlanes.relations import order


def step_of(words):
    """The step that the words of a line ask for, or None."""
    word = words[0]
    if len(words) == 2 and word in ("take", "drop"):
        return tuple(words)
    if len(words) != 3:
        return None
    if word == "rename":
        return tuple(words)
    value = None
    if word == "put":
        value = place_of(words[2], MOST_SIZE)
    elif word == "move":
        value = integer_of(words[2], MOST_SIZE)
    return None if value is None else (word, words[1], value)


def listed(names):
    """The names with one space between, or none."""
    return " ".join(names) if len(names) > 0 else "none"


def yes_or_no(answer):
    """The word for True or False."""
    return "yes" if answer else "no"


class Desk:
    """Answers lines for a store, and counts them."""

    def __init__(self, store):
        self.served = store
        self.said = []

    def store(self):
        """The very store."""
        return self.served

    def say(self, line):
        """The answer to a line."""
        self.said.append(line)
        try:
            answer = self.answer_to(line)
        except BadSyntax:
            return "what"
        except (LaneError, Missing, NothingLeft) as error:
            return f"no {error.word}"
        return "what" if answer is None else answer

    def answer_to(self, line):
        """The answer to a line, or None if it is not known; raise BadSyntax for a bad expression."""
        word, space, rest = line.partition(" ")
        if space == "":
            return self.answer_word(word)
        if word == "let":
            name, gap, text = rest.partition(" ")
            return None if name == "" else self.let(name, text)
        if word == "order":
            return self.told_order(rest)
        if word in ("same", "alike"):
            return self.compared(word, rest)
        return self.answer_words(line.split(" "))

    def answer_word(self, word):
        """The answer to a line of one word, or None."""
        store = self.served
        if word == "beads":
            return listed([bead for bead, place in store.beads()])
        if word == "maps":
            return listed(store.maps())
        if word == "undo":
            store.undo()
        elif word == "redo":
            store.redo()
        else:
            return None
        return "done"

    def answer_words(self, words):
        """The answer to a line of several words without an expression, or None."""
        if "" in words:
            return None
        if len(words) == 2 and words[0] == "where":
            return place_text(self.served.where(words[1]))
        if len(words) == 2 and words[0] == "show":
            return format_map(self.served.lane_map(words[1]))
        step = step_of(words)
        if step is None:
            return None
        self.served.do(step)
        return "done"

    def computed(self, texts):
        """The values of the expressions; all are parsed before the first one is computed."""
        store = self.served
        trees = [parse(text) for text in texts]
        names = {name: store.lane_map(name) for name in store.maps()}
        return [evaluate(tree, names, lanes=store.lanes()) for tree in trees]

    def let(self, name, text):
        """Define a map by an expression."""
        self.served.define(name, self.computed([text])[0])
        return "done"

    def told_order(self, text):
        """The order of an expression's value."""
        least = order(self.computed([text])[0])
        return "none" if least is None else str(least)

    def compared(self, word, text):
        """Whether the values of two expressions are the same or alike; None if there are not two."""
        texts = text.split(" , ")
        if len(texts) != 2:
            return None
        one, other = self.computed(texts)
        if word == "same":
            return yes_or_no(one == other)
        return yes_or_no(conjugacy(one, other)[0] == "plan")

    def __len__(self):
        return len(self.said)
