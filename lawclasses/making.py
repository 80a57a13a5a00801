"""The calls that make new instances of old ones: product, part and quotient."""

from lawclasses.instance import has_all
from lawclasses.parts import generated_by, part_of
from lawclasses.products import product_of
from lawclasses.quotients import held_to_be_one, quotient_of
from lawclasses.store import find_class, find_instance, has_all_instances, keep_instance
from lawclasses.words import is_upper_name

MOST_SIZE = 36


def product_call(table, class_name, first_name, second_name, new_name):
    refusal = making_refusal(table, class_name, [first_name, second_name], new_name)
    if refusal < 0:
        return [refusal]
    lawclass = find_class(table, class_name)
    first = find_instance(table, class_name, first_name)
    second = find_instance(table, class_name, second_name)
    if first.size * second.size > MOST_SIZE:
        return [-6]
    product = product_of(lawclass, first, second, tuple(new_name))
    keep_instance(lawclass, product)
    return [product.size]


def part_call(table, chosen, class_name, name, new_name):
    refusal = making_refusal(table, class_name, [name], new_name)
    if refusal < 0:
        return [refusal]
    lawclass = find_class(table, class_name)
    instance = find_instance(table, class_name, name)
    if not has_all(instance, chosen):
        return [-5]
    members = generated_by(lawclass, instance, chosen)
    if len(members) == 0:
        return [-6]
    keep_instance(lawclass, part_of(lawclass, instance, members, tuple(new_name)))
    return [len(members)] + members


def quotient_call(table, chosen, class_name, name, new_name):
    refusal = making_refusal(table, class_name, [name], new_name)
    if refusal < 0:
        return [refusal]
    lawclass = find_class(table, class_name)
    instance = find_instance(table, class_name, name)
    if len(chosen) % 2 != 0 or not has_all(instance, chosen):
        return [-5]
    least = held_to_be_one(lawclass, instance, pairs_of(chosen))
    quotient = quotient_of(lawclass, instance, least, tuple(new_name))
    keep_instance(lawclass, quotient)
    return [quotient.size] + least


# What all three look at first: 0 if the old ones are there, and one with the new name may come into the table.
def making_refusal(table, class_name, old_names, new_name):
    if any([find_instance(table, class_name, name) is None for name in old_names]):
        return -3
    if not is_upper_name(tuple(new_name)):
        return -1
    if find_instance(table, class_name, new_name) is not None:
        return -2
    if has_all_instances(table):
        return -8
    return 0


def pairs_of(numbers):
    return [(numbers[place], numbers[place + 1]) for place in range(0, len(numbers), 2)]
