"""The calls that ask about an instance: value and tell."""

from lawclasses.instance import told_tree
from lawclasses.store import find_class, find_instance
from lawclasses.terms import is_term, term_column, variables_of
from lawclasses.trees import read_one_tree, written


def value_call(table, chosen, class_name, name, text):
    instance = find_instance(table, class_name, name)
    if instance is None:
        return [-3]
    term = read_one_tree(text)
    if term is None or not is_term(term, find_class(table, class_name).arities):
        return [-1]
    variables = variables_of([term])
    if len(chosen) != len(variables) or not all([0 <= number < instance.size for number in chosen]):
        return [-5]
    columns = dict([(variable, [number]) for variable, number in zip(variables, chosen)])
    return term_column(term, instance, columns, 1)


def tell_call(table, class_name, name):
    instance = find_instance(table, class_name, name)
    if instance is None:
        return [-3]
    return [instance.size] + written(told_tree(find_class(table, class_name), instance))
