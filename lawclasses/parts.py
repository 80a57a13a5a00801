"""Parts: the least sets of elements that operations don't lead out of."""

from lawclasses.instance import Instance
from lawclasses.terms import columns_of_rows, picked, results_at, row_count


# The members of the part, in order; none if nothing is chosen and each operation takes arguments.
def generated_by(lawclass, instance, chosen):
    members = sorted(set(chosen))
    wider = with_results(lawclass, instance, members)
    while len(wider) > len(members):
        members = wider
        wider = with_results(lawclass, instance, members)
    return members


def with_results(lawclass, instance, members):
    reached = list(members)
    for operation, arity in lawclass.operations:
        reached.extend(results_within(instance, operation, arity, members))
    return sorted(set(reached))


# What an operation gives at all rows of members, in the order of rows.
def results_within(instance, operation, arity, members):
    columns = [picked(members, column) for column in columns_of_rows(len(members), arity)]
    count = row_count(len(members), arity)
    return results_at(instance.results[operation], instance.size, columns, count)


def part_of(lawclass, instance, members, name):
    numbers = dict([(member, number) for number, member in enumerate(members)])
    return numbered_anew(lawclass, instance, members, numbers, name)


# numbers: for each element that an operation gives at members, its number in the new instance.
def numbered_anew(lawclass, instance, members, numbers, name):
    results = {}
    for operation, arity in lawclass.operations:
        results[operation] = picked(numbers, results_within(instance, operation, arity, members))
    return Instance(name, len(members), results)
