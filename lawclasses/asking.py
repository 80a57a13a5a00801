"""The calls that ask about instances: value, maps and tell."""

from lawclasses.instance import has_all, told_tree
from lawclasses.maps import maps_between
from lawclasses.store import find_class, find_instance
from lawclasses.terms import is_term, row_count, term_column, variables_of
from lawclasses.trees import read_one_tree, written

MOST_MAPS_TOLD = 100
MOST_MAPS_LOOKED_AT = 5000


def value_call(table, chosen, class_name, name, text):
    instance = find_instance(table, class_name, name)
    if instance is None:
        return [-3]
    term = read_one_tree(text)
    if term is None or not is_term(term, find_class(table, class_name).arities):
        return [-1]
    variables = variables_of([term])
    if len(chosen) != len(variables) or not has_all(instance, chosen):
        return [-5]
    columns = dict([(variable, [number]) for variable, number in zip(variables, chosen)])
    return term_column(term, instance, columns, 1)


def maps_call(table, most, class_name, first_name, second_name):
    first = find_instance(table, class_name, first_name)
    second = find_instance(table, class_name, second_name)
    if first is None or second is None:
        return [-3]
    if not 0 <= most <= MOST_MAPS_TOLD:
        return [-5]
    if row_count(second.size, first.size) > MOST_MAPS_LOOKED_AT:
        return [-6]
    found = maps_between(find_class(table, class_name), first, second)
    answer = [len(found)]
    for row in found[:most]:
        answer.extend(row)
    return answer


def tell_call(table, class_name, name):
    instance = find_instance(table, class_name, name)
    if instance is None:
        return [-3]
    return [instance.size] + written(told_tree(find_class(table, class_name), instance))
