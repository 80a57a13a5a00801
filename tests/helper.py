"""Calls in plain words: they are laid out for the program, and its answers are taken apart."""

from lawclasses.table import answers

NUMBERS = {"class": 0, "instance": 1, "fault": 2, "value": 3, "product": 4, "tell": 8}

GROUP = (
    "(class Group ((e 0) (inv 1) (mul 2)) ((assoc (mul A (mul B C)) (mul (mul A B) C))"
    " (neutral (mul e A) A) (inverse (mul (inv A) A) e)))"
)
TWO = "(instance Group Two 2 ((e 0) (inv 0 1) (mul 0 1 1 0)))"
BAD = "(instance Group Bad 2 ((e 0) (inv 0 1) (mul 0 1 1 1)))"
FOUR = "(instance Group Four 4 ((e 0) (inv 0 1 2 3) (mul 0 1 2 3 1 0 3 2 2 3 0 1 3 2 1 0)))"
THREE = "(instance Group Three 3 ((e 0) (inv 0 2 1) (mul 0 1 2 1 2 0 2 0 1)))"


def numbers_of(row):
    return [ord(sign) for sign in row] if isinstance(row, str) else list(row)


def laid_out(calls):
    numbers = []
    for call in calls:
        numbers.append(NUMBERS[call[0]])
        for row in call[1:]:
            row = numbers_of(row)
            numbers.append(len(row))
            numbers.extend(row)
    return numbers


def taken_apart(numbers):
    apart = []
    place = 0
    while place < len(numbers):
        behind = place + 1 + numbers[place]
        assert numbers[place] >= 1 and behind <= len(numbers), "counts don't match the answers"
        apart.append(numbers[place + 1:behind])
        place = behind
    return apart


def ask(*calls):
    given = answers(laid_out(calls))
    assert isinstance(given, list) and all(type(number) is int for number in given)
    apart = taken_apart(given)
    assert len(apart) == len(calls)
    return apart


def last(*calls):
    return ask(*calls)[-1]


def with_text(number, text):
    return [number] + numbers_of(text)


def class_answer(text, *before):
    return last(*before, ("class", text))


def many_classes(count):
    return [("class", f"(class C{k} () ())") for k in range(count)]


def many_instances(count, of="C0"):
    return [("instance", f"(instance {of} S{k} 1 ())") for k in range(count)]
