"""Quotients: what is left when elements are held to be one."""

from lawclasses.parts import numbered_anew
from lawclasses.terms import columns_of_rows, picked, results_at


# For each element the least that it's one with.
def held_to_be_one(lawclass, instance, pairs):
    least = joined(list(range(instance.size)), pairs)
    wider = joined(least, pairs_by_operations(lawclass, instance, least))
    while wider != least:
        least = wider
        wider = joined(least, pairs_by_operations(lawclass, instance, least))
    return least


def joined(least, pairs):
    wider = list(least)
    for one, other in pairs:
        if wider[one] != wider[other]:
            wider = with_one_for_both(wider, wider[one], wider[other])
    return wider


def with_one_for_both(least, one, other):
    lesser = min(one, other)
    greater = max(one, other)
    return [lesser if number == greater else number for number in least]


# Each row is held beside the row of the least ones alone: rows that are one share that row.
def pairs_by_operations(lawclass, instance, least):
    pairs = []
    for operation, arity in lawclass.operations:
        results = instance.results[operation]
        columns = [picked(least, column) for column in columns_of_rows(instance.size, arity)]
        at_least = results_at(results, instance.size, columns, len(results))
        pairs.extend(list(zip(results, at_least)))
    return pairs


def quotient_of(lawclass, instance, least, name):
    members = sorted(set(least))
    places = dict([(member, number) for number, member in enumerate(members)])
    return numbered_anew(lawclass, instance, members, picked(places, least), name)
