"""Products: an element stands for a pair, one element of the first instance and one of the second."""

from lawclasses.instance import Instance
from lawclasses.terms import columns_of_rows, results_at, row_count


def product_of(lawclass, first, second, name):
    results = {}
    for operation, arity in lawclass.operations:
        results[operation] = product_results(operation, arity, first, second)
    return Instance(name, first.size * second.size, results)


def product_results(operation, arity, first, second):
    size = first.size * second.size
    count = row_count(size, arity)
    pairs = columns_of_rows(size, arity)
    first_columns = [first_halves(column, second.size) for column in pairs]
    second_columns = [second_halves(column, second.size) for column in pairs]
    first_results = results_at(first.results[operation], first.size, first_columns, count)
    second_results = results_at(second.results[operation], second.size, second_columns, count)
    return [one * second.size + other for one, other in zip(first_results, second_results)]


def first_halves(pairs, second_size):
    return [pair // second_size for pair in pairs]


def second_halves(pairs, second_size):
    return [pair % second_size for pair in pairs]
