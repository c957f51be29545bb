"""Expressions as programs for a stack of lane maps."""

from farlanes.algebra import compose, conjugate
from farlanes.errors import BadProgram
from farlanes.expressions import named_map, plain_map
from farlanes.maps import check_lanes
from farlanes.travel import power

# The instructions: the first item, the number of items, and how many maps are popped.
SHAPES = (
    ("identity", 1, 0),
    ("lead", 3, 0),
    ("swap", 3, 0),
    ("load", 2, 0),
    ("compose", 1, 2),
    ("conjugate", 1, 2),
    ("power", 2, 1),
)


def compiled(tree):
    """The program of a tree."""
    word = tree[0]
    if word == "product":
        return compiled(tree[1]) + compiled(tree[2]) + [("compose",)]
    if word == "conjugate":
        return compiled(tree[1]) + compiled(tree[2]) + [("conjugate",)]
    if word == "power":
        return compiled(tree[1]) + [("power", tree[2])]
    if word == "name":
        return [("load", tree[1])]
    return [tree]


def popped_maps(instruction):
    """How many maps an instruction pops, or None if the tuple is no instruction."""
    for word, items, many in SHAPES:
        if len(instruction) == items and instruction[0] == word:
            return many
    return None


def check_program(program):
    """Raise BadProgram if the program cannot be run to its end, or does not leave one map."""
    height = 0
    for at, instruction in enumerate(program):
        many = popped_maps(instruction)
        if many is None or many > height:
            raise BadProgram(at)
        height += 1 - many
    if height != 1:
        raise BadProgram(len(program))


def follow_instruction(stack, instruction, names, lanes):
    """Do to the stack what an instruction says."""
    word = instruction[0]
    if word == "compose":
        right = stack.pop()
        stack.append(compose(stack.pop(), right))
    elif word == "conjugate":
        right = stack.pop()
        stack.append(conjugate(stack.pop(), right))
    elif word == "power":
        stack.append(power(stack.pop(), instruction[1]))
    elif word == "load":
        stack.append(named_map(instruction[1], names, lanes))
    else:
        stack.append(plain_map(instruction, lanes))


def run(program, names, *, lanes):
    """The map that a program leaves on the stack."""
    check_lanes(lanes)
    check_program(program)
    stack = []
    for instruction in program:
        follow_instruction(stack, instruction, names, lanes)
    return stack[0]
