"""The table: the classes by name, each with its instances by name."""

MOST_CLASSES = 30
MOST_INSTANCES = 30


class Table:
    def __init__(self):
        self.classes = {}


def class_count(table):
    return len(table.classes)


def instance_count(table):
    return sum([len(lawclass.instances) for lawclass in table.classes.values()])


def has_all_classes(table):
    return class_count(table) >= MOST_CLASSES


def has_all_instances(table):
    return instance_count(table) >= MOST_INSTANCES


# Names are handed over as lists of bytes; None if there's no such class.
def find_class(table, name):
    return table.classes.get(tuple(name))


# None if there's no such class or it has no such instance.
def find_instance(table, class_name, name):
    lawclass = find_class(table, class_name)
    if lawclass is None:
        return None
    return lawclass.instances.get(tuple(name))


def keep_class(table, lawclass):
    table.classes[lawclass.name] = lawclass


def keep_instance(lawclass, instance):
    lawclass.instances[instance.name] = instance
