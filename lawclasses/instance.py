"""Instances: read from a text, held against a class and its laws, and told."""

from lawclasses.terms import columns_of_rows, row_count, term_column
from lawclasses.trees import read_one_tree
from lawclasses.words import is_lower_name, is_numeral, is_upper_name, number_of, numeral_of, spelled

MOST_TOLD_SIZE = 6


class Instance:
    # results: for each operation's name, in the class's order, its values in the order of rows.
    def __init__(self, name, size, results):
        self.name = name
        self.size = size
        self.results = results


# What a text tells of an instance, before anybody has looked whether it fits its class.
class ToldInstance:
    # rows: pairs of an operation's name and the numbers behind it.
    def __init__(self, class_name, name, size, rows):
        self.class_name = class_name
        self.name = name
        self.size = size
        self.rows = rows


def has_all(instance, numbers):
    return all([0 <= number < instance.size for number in numbers])


# Gives None if the text isn't readable, isn't one tree, or that's no instance.
def read_instance(text):
    tree = read_one_tree(text)
    if not has_instance_form(tree):
        return None
    rows = [(row[0], numbers_behind(row)) for row in tree[4]]
    return ToldInstance(tree[1], tree[2], number_of(tree[3]), rows)


def numbers_behind(row):
    return [number_of(numeral) for numeral in row[1:]]


def has_instance_form(tree):
    if not isinstance(tree, list) or len(tree) != 5 or tree[0] != spelled("instance"):
        return False
    if not is_upper_name(tree[1]) or not is_upper_name(tree[2]) or not is_told_size(tree[3]):
        return False
    return isinstance(tree[4], list) and all([is_told_row(row) for row in tree[4]])


def is_told_size(tree):
    return is_numeral(tree) and 1 <= number_of(tree) <= MOST_TOLD_SIZE


def is_told_row(tree):
    if not isinstance(tree, list) or len(tree) == 0 or not is_lower_name(tree[0]):
        return False
    return all([is_numeral(part) for part in tree[1:]])


def fits_class(told, lawclass):
    if len(told.rows) != len(lawclass.operations):
        return False
    pairs = list(zip(told.rows, lawclass.operations))
    return all([fits_operation(row, operation, told.size) for row, operation in pairs])


def fits_operation(row, operation, size):
    numbers = row[1]
    if row[0] != operation[0] or len(numbers) != row_count(size, operation[1]):
        return False
    return all([number < size for number in numbers])


def made_of(told):
    return Instance(told.name, told.size, dict(told.rows))


# The tree of the first law that doesn't hold and the first row at which it fails; None if all hold.
def first_failure(lawclass, instance):
    for law in lawclass.laws:
        failure = failure_of(law, instance)
        if failure is not None:
            return failure
    return None


def failure_of(law, instance):
    count = row_count(instance.size, len(law.variables))
    columns = dict(zip(law.variables, columns_of_rows(instance.size, len(law.variables))))
    left = term_column(law.left, instance, columns, count)
    right = term_column(law.right, instance, columns, count)
    for row in range(count):
        if left[row] != right[row]:
            pairs = [[variable, numeral_of(columns[variable][row])] for variable in law.variables]
            return [law.name] + pairs
    return None


def told_tree(lawclass, instance):
    rows = []
    for name, arity in lawclass.operations:
        rows.append([name] + [numeral_of(number) for number in instance.results[name]])
    return [spelled("instance"), lawclass.name, instance.name, numeral_of(instance.size), rows]
