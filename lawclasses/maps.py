"""Maps between instances that operations don't mind."""

from lawclasses.terms import columns_of_rows, picked, results_at


# One thing that's asked of a map: what it gives to result is the operation's value at what it gives to arguments.
class Condition:
    def __init__(self, operation, arguments, result):
        self.operation = operation
        self.arguments = arguments
        self.result = result


# All maps in their order, each a row. They are grown element by element, and what fails is left out at once: most
# rows never grow long. All rows are looked at together, as columns, since that's much faster than row by row.
def maps_between(lawclass, first, second):
    conditions = conditions_by_greatest(lawclass, first)
    columns = []
    count = 1
    for element in range(first.size):
        columns = grown(columns, count, second.size)
        for condition in conditions[element]:
            columns = keeping(columns, condition, second)
        count = len(columns[0])
    return [picked_row(columns, row) for row in range(count)]


# For each element the conditions that speak of it and of no greater one.
def conditions_by_greatest(lawclass, first):
    conditions = [[] for element in range(first.size)]
    for operation, arity in lawclass.operations:
        columns = columns_of_rows(first.size, arity)
        for row, result in enumerate(first.results[operation]):
            arguments = picked_row(columns, row)
            greatest = max(arguments + [result])
            conditions[greatest].append(Condition(operation, arguments, result))
    return conditions


def picked_row(columns, row):
    return [column[row] for column in columns]


# Each of count rows goes on with each element of the second, in order.
def grown(columns, count, size):
    old_rows = [row // size for row in range(count * size)]
    added = [row % size for row in range(count * size)]
    return [picked(column, old_rows) for column in columns] + [added]


def keeping(columns, condition, second):
    given = columns[condition.result]
    arguments = picked(columns, condition.arguments)
    asked = results_at(second.results[condition.operation], second.size, arguments, len(given))
    if given == asked:
        return columns
    kept = [row for row in range(len(given)) if given[row] == asked[row]]
    return [picked(column, kept) for column in columns]
