"""Calls in plain words: they are laid out for the program, and its answers are taken apart."""

import itertools

from lawclasses.table import answers

NUMBERS = {
    "class": 0, "instance": 1, "fault": 2, "value": 3, "product": 4, "part": 5, "quotient": 6, "maps": 7, "tell": 8,
}

GROUP = (
    "(class Group ((e 0) (inv 1) (mul 2)) ((assoc (mul A (mul B C)) (mul (mul A B) C))"
    " (neutral (mul e A) A) (inverse (mul (inv A) A) e)))"
)
TWO = "(instance Group Two 2 ((e 0) (inv 0 1) (mul 0 1 1 0)))"
BAD = "(instance Group Bad 2 ((e 0) (inv 0 1) (mul 0 1 1 1)))"
FOUR = "(instance Group Four 4 ((e 0) (inv 0 1 2 3) (mul 0 1 2 3 1 0 3 2 2 3 0 1 3 2 1 0)))"
THREE = "(instance Group Three 3 ((e 0) (inv 0 2 1) (mul 0 1 2 1 2 0 2 0 1)))"

SOME_GROUPS = (
    ("class", GROUP),
    ("instance", TWO),
    ("instance", THREE),
    ("product", "Group", "Two", "Two", "Four"),
    ("product", "Group", "Two", "Three", "Six"),
)
NO_UPPER_NAMES = ("", "new", "1", "'N", "N ", " N", "N-", "(N)", "N\n", "N M", '"N"', [78, 200], [0])
LARGE = (10 ** 18, -10 ** 18, 2 ** 32, 2 ** 63 - 1, 256, -256, 2 ** 32 + 1, -2 ** 32)


def numbers_of(row):
    return [ord(sign) for sign in row] if isinstance(row, str) else list(row)


def laid_out(calls):
    """A row is a text or a list; a whole number stands by itself, without a count."""
    numbers = []
    for call in calls:
        numbers.append(NUMBERS[call[0]])
        for row in call[1:]:
            if isinstance(row, int):
                numbers.append(row)
                continue
            row = numbers_of(row)
            numbers.append(len(row))
            numbers.extend(row)
    return numbers


def taken_apart(numbers):
    apart = []
    place = 0
    while place < len(numbers):
        behind = place + 1 + numbers[place]
        assert numbers[place] >= 1 and behind <= len(numbers), "counts don't match the answers"
        apart.append(numbers[place + 1:behind])
        place = behind
    return apart


def ask(*calls):
    given = answers(laid_out(calls))
    assert isinstance(given, list) and all(type(number) is int for number in given)
    apart = taken_apart(given)
    assert len(apart) == len(calls)
    return apart


def last(*calls):
    return ask(*calls)[-1]


def with_text(number, text):
    return [number] + numbers_of(text)


def class_answer(text, *before):
    return last(*before, ("class", text))


def many_classes(count):
    return [("class", f"(class C{k} () ())") for k in range(count)]


def many_instances(count, of="C0"):
    return [("instance", f"(instance {of} S{k} 1 ())") for k in range(count)]


def sized(*sizes):
    """A class C without operations, with an instance N<size> for each size: parts of one of 36 elements."""
    calls = [("class", "(class C () ())"), ("instance", "(instance C Six 6 ())")]
    calls.append(("product", "C", "Six", "Six", "Most"))
    return calls + [("part", range(size), "C", "Most", f"N{size}") for size in sizes]


class Plain:
    """An instance of a class M with the operations o0, o1, .., kept the plainest way: a dict of rows for each."""

    def __init__(self, size, tables):
        self.size = size
        self.tables = tables

    def text(self, name):
        rows = []
        for k, table in enumerate(self.tables):
            values = [table[row] for row in sorted(table)]
            rows.append(f"(o{k} {' '.join(map(str, values))})")
        return f"(instance M {name} {self.size} ({' '.join(rows)}))"

    def numbered_anew(self, members, least):
        """The instance of these members alone, where a value counts as the least that it's one with."""
        tables = []
        for table in self.tables:
            rows = {row: value for row, value in table.items() if set(row) <= set(members)}
            tables.append({tuple(map(members.index, row)): members.index(least[value]) for row, value in rows.items()})
        return Plain(len(members), tables)


def plain_class(arities):
    return ("class", f"(class M ({' '.join(f'(o{k} {arity})' for k, arity in enumerate(arities))}) ())")


def scrambled(seed, size, arities):
    """An instance without a pattern, and the same each time."""
    state = seed
    tables = []
    for arity in arities:
        table = {}
        for row in itertools.product(range(size), repeat=arity):
            state = (state * 1103515245 + 12345) % 2 ** 31
            table[row] = (state >> 16) % size
        tables.append(table)
    return Plain(size, tables)


def from_rule(size, *rules):
    """Each rule a function from 0, 1 or 2 elements to an element."""
    tables = []
    for rule in rules:
        rows = itertools.product(range(size), repeat=rule.__code__.co_argcount)
        tables.append({row: rule(*row) for row in rows})
    return Plain(size, tables)
