"""The calls that take texts into the table: class, instance, and fault, which only looks."""

from lawclasses.instance import first_failure, fits_class, made_of, read_instance
from lawclasses.lawclass import has_name_twice, is_too_large, read_class
from lawclasses.store import class_count, find_class, has_all_classes, has_all_instances
from lawclasses.store import instance_count, keep_class, keep_instance
from lawclasses.trees import written


def class_call(table, text):
    lawclass = read_class(text)
    if lawclass is None:
        return [-1]
    if is_too_large(lawclass) or has_all_classes(table):
        return [-8]
    if lawclass.name in table.classes or has_name_twice(lawclass):
        return [-2]
    keep_class(table, lawclass)
    return [class_count(table)]


# What fault says and what instance does can't part ways: instance asks fault.
def instance_call(table, text):
    fault = fault_call(table, text)
    if fault[0] != 0:
        return [-fault[0]]
    told = read_instance(text)
    keep_instance(find_class(table, told.class_name), made_of(told))
    return [instance_count(table)]


def fault_call(table, text):
    told = read_instance(text)
    refusal = refusal_ahead_of_laws(table, told)
    if refusal < 0:
        return [-refusal]
    failure = first_failure(find_class(table, told.class_name), made_of(told))
    if failure is None:
        return [0]
    return [7] + written(failure)


# 0 if nothing but a law can stand against what is told.
def refusal_ahead_of_laws(table, told):
    if told is None:
        return -1
    lawclass = find_class(table, told.class_name)
    if lawclass is None:
        return -3
    if has_all_instances(table):
        return -8
    if told.name in lawclass.instances:
        return -2
    if not fits_class(told, lawclass):
        return -4
    return 0
