"""The calls that make new instances of old ones: product."""

from lawclasses.instance import Instance
from lawclasses.store import find_class, find_instance, has_all_instances, keep_instance
from lawclasses.terms import columns_of_rows, results_at, row_count
from lawclasses.words import is_upper_name

MOST_SIZE = 36


def product_call(table, class_name, first_name, second_name, new_name):
    first = find_instance(table, class_name, first_name)
    second = find_instance(table, class_name, second_name)
    if first is None or second is None:
        return [-3]
    lawclass = find_class(table, class_name)
    refusal = new_name_refusal(table, lawclass, tuple(new_name))
    if refusal < 0:
        return [refusal]
    if first.size * second.size > MOST_SIZE:
        return [-6]
    product = product_of(lawclass, first, second, tuple(new_name))
    keep_instance(lawclass, product)
    return [product.size]


# 0 if an instance with the new name may come into the table.
def new_name_refusal(table, lawclass, name):
    if not is_upper_name(name):
        return -1
    if name in lawclass.instances:
        return -2
    if has_all_instances(table):
        return -8
    return 0


def product_of(lawclass, first, second, name):
    results = {}
    for operation, arity in lawclass.operations:
        results[operation] = product_results(operation, arity, first, second)
    return Instance(name, first.size * second.size, results)


def product_results(operation, arity, first, second):
    size = first.size * second.size
    count = row_count(size, arity)
    pairs = columns_of_rows(size, arity)
    first_columns = [first_halves(column, second.size) for column in pairs]
    second_columns = [second_halves(column, second.size) for column in pairs]
    first_results = results_at(first.results[operation], first.size, first_columns, count)
    second_results = results_at(second.results[operation], second.size, second_columns, count)
    return [one * second.size + other for one, other in zip(first_results, second_results)]


def first_halves(pairs, second_size):
    return [pair // second_size for pair in pairs]


def second_halves(pairs, second_size):
    return [pair % second_size for pair in pairs]
