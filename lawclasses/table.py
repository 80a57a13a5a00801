"""The interface: calls on one new object, laid out as one list of whole numbers."""

from lawclasses.asking import maps_call, tell_call, value_call
from lawclasses.making import part_call, product_call, quotient_call
from lawclasses.store import Table
from lawclasses.taking import class_call, fault_call, instance_call

CLASS = 0
INSTANCE = 1
FAULT = 2
VALUE = 3
PRODUCT = 4
PART = 5
QUOTIENT = 6
MAPS = 7

# How many rows each call has, by its number; 8 is tell, the one that's left when all others are asked for.
ROWS = (1, 1, 1, 4, 4, 4, 4, 3, 2)


def answers(calls):
    table = Table()
    answered = []
    place = 0
    while place < len(calls):
        number = calls[place]
        start = place + 1 + plain_count(number)
        rows = rows_from(calls, start, ROWS[number])
        answer = answer_to(table, number, calls[place + 1:start], rows)
        place = start + sum([1 + len(row) for row in rows])
        answered.append(len(answer))
        answered.extend(answer)
    return answered


# How many whole numbers of its own a call has ahead of its rows.
def plain_count(number):
    return 1 if number == MAPS else 0


def rows_from(calls, start, count):
    rows = []
    place = start
    while len(rows) < count:
        behind = place + 1 + calls[place]
        rows.append(calls[place + 1:behind])
        place = behind
    return rows


def answer_to(table, number, plain, rows):
    if number == CLASS:
        return class_call(table, rows[0])
    if number == INSTANCE:
        return instance_call(table, rows[0])
    if number == FAULT:
        return fault_call(table, rows[0])
    if number == VALUE:
        return value_call(table, rows[0], rows[1], rows[2], rows[3])
    if number == PRODUCT:
        return product_call(table, rows[0], rows[1], rows[2], rows[3])
    if number == PART:
        return part_call(table, rows[0], rows[1], rows[2], rows[3])
    if number == QUOTIENT:
        return quotient_call(table, rows[0], rows[1], rows[2], rows[3])
    if number == MAPS:
        return maps_call(table, plain[0], rows[0], rows[1], rows[2])
    return tell_call(table, rows[0], rows[1])
