"""A class: its name, its operations and its laws, read from a text."""

from lawclasses.terms import is_term, variables_of
from lawclasses.trees import read_one_tree
from lawclasses.words import is_lower_name, is_numeral, is_upper_name, number_of, spelled

MOST_OPERATIONS = 6
MOST_LAWS = 8
MOST_VARIABLES = 3
MOST_ARGUMENTS = 2


class Law:
    def __init__(self, name, left, right):
        self.name = name
        self.left = left
        self.right = right
        self.variables = variables_of([left, right])


class LawClass:
    # operations: pairs of a name and how many arguments it takes.
    def __init__(self, name, operations, laws):
        self.name = name
        self.operations = operations
        self.arities = first_arities(operations)
        self.laws = laws
        self.instances = {}


# Where two operations have the same name, the first is meant.
def first_arities(operations):
    arities = {}
    for name, arity in operations:
        arities.setdefault(name, arity)
    return arities


# Gives None if the text isn't readable, isn't one tree, or that's no class.
def read_class(text):
    tree = read_one_tree(text)
    if not has_class_form(tree):
        return None
    operations = read_operations(tree[2])
    if operations is None:
        return None
    laws = read_laws(tree[3], first_arities(operations))
    if laws is None:
        return None
    return LawClass(tree[1], operations, laws)


def has_class_form(tree):
    if not isinstance(tree, list) or len(tree) != 4 or tree[0] != spelled("class"):
        return False
    return is_upper_name(tree[1]) and isinstance(tree[2], list) and isinstance(tree[3], list)


def read_operations(trees):
    if not all([is_operation(tree) for tree in trees]):
        return None
    return [(tree[0], number_of(tree[1])) for tree in trees]


def is_operation(tree):
    if not isinstance(tree, list) or len(tree) != 2:
        return False
    return is_lower_name(tree[0]) and is_numeral(tree[1]) and number_of(tree[1]) <= MOST_ARGUMENTS


def read_laws(trees, arities):
    if not all([is_law(tree, arities) for tree in trees]):
        return None
    return [Law(tree[0], tree[1], tree[2]) for tree in trees]


def is_law(tree, arities):
    if not isinstance(tree, list) or len(tree) != 3:
        return False
    return is_lower_name(tree[0]) and is_term(tree[1], arities) and is_term(tree[2], arities)


def is_too_large(lawclass):
    if len(lawclass.operations) > MOST_OPERATIONS or len(lawclass.laws) > MOST_LAWS:
        return True
    return any([len(law.variables) > MOST_VARIABLES for law in lawclass.laws])


def has_name_twice(lawclass):
    # The first of each name is all that arities keeps.
    if len(lawclass.arities) < len(lawclass.operations):
        return True
    return len(set([law.name for law in lawclass.laws])) < len(lawclass.laws)
