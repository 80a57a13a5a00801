"""The interface: calls on one new object, laid out as one list of whole numbers."""

from lawclasses.asking import tell_call, value_call
from lawclasses.making import product_call
from lawclasses.store import Table
from lawclasses.taking import class_call, fault_call, instance_call

CLASS = 0
INSTANCE = 1
FAULT = 2
VALUE = 3
PRODUCT = 4

# For each call's number how many rows it has; 8 is tell, the one that's left when all others are asked for.
ROWS = {0: 1, 1: 1, 2: 1, 3: 4, 4: 4, 8: 2}


def answers(calls):
    table = Table()
    answered = []
    place = 0
    while place < len(calls):
        number = calls[place]
        rows = rows_from(calls, place + 1, ROWS[number])
        place = place + 1 + sum([1 + len(row) for row in rows])
        answer = answer_to(table, number, rows)
        answered.append(len(answer))
        answered.extend(answer)
    return answered


def rows_from(calls, start, count):
    rows = []
    place = start
    while len(rows) < count:
        behind = place + 1 + calls[place]
        rows.append(calls[place + 1:behind])
        place = behind
    return rows


def answer_to(table, number, rows):
    if number == CLASS:
        return class_call(table, rows[0])
    if number == INSTANCE:
        return instance_call(table, rows[0])
    if number == FAULT:
        return fault_call(table, rows[0])
    if number == VALUE:
        return value_call(table, rows[0], rows[1], rows[2], rows[3])
    if number == PRODUCT:
        return product_call(table, rows[0], rows[1], rows[2], rows[3])
    return tell_call(table, rows[0], rows[1])
