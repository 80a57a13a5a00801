import itertools
import unittest

from tests.helper import LARGE, NO_UPPER_NAMES, SOME_GROUPS, TWO, ask, from_rule, last, many_classes
from tests.helper import many_instances, plain_class, scrambled, sized, with_text


def generated(instance, chosen):
    """The part's elements, worked out row by row."""
    members = set(chosen)
    grown = True
    while grown:
        grown = False
        for table in instance.tables:
            for row, value in table.items():
                if set(row) <= members and value not in members:
                    members.add(value)
                    grown = True
    return sorted(members)


class Parts(unittest.TestCase):
    def check(self, instance, chosen, members):
        arities = [len(next(iter(table))) for table in instance.tables]
        calls = [plain_class(arities), ("instance", instance.text("S")), ("part", chosen, "M", "S", "P")]
        answered = ask(*calls, ("tell", "M", "P"), ("tell", "M", "S"))[2:]
        self.assertEqual(answered[0], [len(members)] + members, chosen)
        part = instance.numbered_anew(members, range(instance.size))
        self.assertEqual(answered[1], with_text(len(members), part.text("P")), chosen)
        self.assertEqual(answered[2], with_text(instance.size, instance.text("S")), chosen)

    def test_example(self):
        calls = SOME_GROUPS + (("part", [3], "Group", "Four", "P"), ("tell", "Group", "P"))
        self.assertEqual(ask(*calls)[5:], [[2, 0, 3], with_text(2, TWO.replace("Two", "P"))])

    def test_one_element(self):
        for chosen, members in ((0, [0]), (1, [0, 1, 2]), (2, [0, 1, 2]), (3, [0, 3]), (4, list(range(6)))):
            self.assertEqual(last(*SOME_GROUPS, ("part", [chosen], "Group", "Six", "P")), [len(members)] + members)

    def test_several_elements(self):
        self.assertEqual(last(*SOME_GROUPS, ("part", [1, 2], "Group", "Four", "P")), [4, 0, 1, 2, 3])
        self.assertEqual(last(*SOME_GROUPS, ("part", [0, 2], "Group", "Four", "P")), [2, 0, 2])
        self.assertEqual(last(*SOME_GROUPS, ("part", [1, 3], "Group", "Six", "P")), [6, 0, 1, 2, 3, 4, 5])

    def test_twice_and_out_of_order(self):
        calls = sized() + [("part", [30, 7, 35, 7, 0, 30, 30], "C", "Most", "P"), ("tell", "C", "P")]
        self.assertEqual(ask(*calls)[3:], [[4, 0, 7, 30, 35], with_text(4, "(instance C P 4 ())")])
        self.assertEqual(last(*SOME_GROUPS, ("part", [2, 0, 2, 0], "Group", "Four", "P")), [2, 0, 2])
        self.assertEqual(last(*SOME_GROUPS, ("part", [3] * 1000, "Group", "Four", "P")), [2, 0, 3])

    def test_none_where_there_are_constants(self):
        self.assertEqual(last(*SOME_GROUPS, ("part", [], "Group", "Six", "P")), [1, 0])
        instance = from_rule(6, lambda: 4, lambda a: (a + 2) % 6)
        self.check(instance, [], [0, 2, 4])
        self.check(from_rule(5, lambda: 3, lambda: 1), [], [1, 3])
        self.check(from_rule(5, lambda: 3), [], [3])

    def test_constants_are_in_each_part(self):
        self.check(from_rule(5, lambda: 3, lambda: 1), [2], [1, 2, 3])
        self.check(from_rule(5, lambda: 3), [4, 0], [0, 3, 4])

    def test_one_argument_over_many_steps(self):
        self.check(from_rule(6, lambda a: (5, 3, 2, 0, 4, 5)[a]), [1], [0, 1, 3, 5])
        self.check(from_rule(6, lambda a: (5, 3, 2, 0, 4, 5)[a]), [5], [5])
        self.check(from_rule(6, lambda a: (a + 1) % 6), [2], [0, 1, 2, 3, 4, 5])
        self.check(from_rule(6, lambda a: (a + 5) % 6), [0], [0, 1, 2, 3, 4, 5])

    def test_two_arguments(self):
        self.check(from_rule(6, lambda a, b: a if a == b else (a + 1) % 6), [4], [4])
        self.check(from_rule(6, lambda a, b: min(a, b)), [5, 2, 3], [2, 3, 5])
        self.check(from_rule(6, lambda a, b: (a + b) % 6), [4], [0, 2, 4])
        # Only the row (4, 1) leads on, so that places count.
        self.check(from_rule(6, lambda a, b: 0 if (a, b) == (4, 1) else a), [1, 4], [0, 1, 4])
        self.check(from_rule(6, lambda a, b: 0 if (a, b) == (1, 4) else a), [1, 4], [0, 1, 4])
        self.check(from_rule(6, lambda a, b: 0 if (a, b) == (3, 1) else a), [1, 4], [1, 4])

    def test_operations_lead_on_to_one_another(self):
        instance = from_rule(6, lambda: 0, lambda a: (1, 1, 2, 3, 4, 5)[a], lambda a, b: 5 if (a, b) == (1, 0) else b,
                             lambda a: (0, 1, 2, 3, 4, 3)[a])
        self.check(instance, [], [0, 1, 3, 5])

    def test_whole_instance(self):
        instance = scrambled(3, 5, (0, 1, 2))
        self.check(instance, [0, 1, 2, 3, 4], [0, 1, 2, 3, 4])
        calls = SOME_GROUPS + (("part", range(6), "Group", "Six", "P"), ("tell", "Group", "P"), ("tell", "Group", "Six"))
        part, told, old = ask(*calls)[5:]
        self.assertEqual(part, [6, 0, 1, 2, 3, 4, 5])
        self.assertEqual(bytes(told[1:]).decode().replace("Group P", "Group Six"), bytes(old[1:]).decode())

    def test_one_element_in_all(self):
        self.check(from_rule(1, lambda: 0, lambda a: 0, lambda a, b: 0), [0], [0])
        self.check(from_rule(1, lambda: 0, lambda a: 0, lambda a, b: 0), [], [0])

    def test_all_choices_of_scrambled_instances(self):
        sizes = set()
        for seed, arities in enumerate(((2,), (1, 1), (0, 1), (1,), (0, 2, 1), (1, 2, 0), (0, 0), (2, 2))):
            for size in (2, 4, 5):
                instance = scrambled(seed * 7 + size, size, arities)
                for count in range(1, size + 1):
                    for chosen in itertools.combinations(range(size), count):
                        members = generated(instance, chosen)
                        sizes.add(len(members))
                        self.check(instance, chosen, members)
        self.assertEqual(sizes, {1, 2, 3, 4, 5})

    def test_of_a_product(self):
        calls = SOME_GROUPS + (
            ("product", "Group", "Six", "Four", "Large"),
            ("part", [10], "Group", "Large", "P"),
            ("tell", "Group", "P"),
        )
        answered = ask(*calls)[5:]
        self.assertEqual(answered[:2], [[24], [6, 0, 2, 4, 6, 8, 10]])
        # The pairs of 0, 1 or 2 of Six with 0 or 2 of Four, in order.
        pairs = list(itertools.product(range(3), range(2)))
        inverse = " ".join(str(-a % 3 * 2 + b) for a, b in pairs)
        mul = " ".join(str((a + c) % 3 * 2 + (b + d) % 2) for a, b in pairs for c, d in pairs)
        self.assertEqual(answered[2], with_text(6, f"(instance Group P 6 ((e 0) (inv {inverse}) (mul {mul})))"))

    def test_of_a_part(self):
        calls = sized() + [
            ("part", [3, 9, 27, 30], "C", "Most", "P"),
            ("part", [3, 1], "C", "P", "R"),
            ("part", [4], "C", "P", "S"),
            ("part", [2], "C", "R", "S"),
            ("part", [0, 1], "C", "R", "T"),
        ]
        self.assertEqual(ask(*calls)[3:], [[4, 3, 9, 27, 30], [2, 1, 3], [-5], [-5], [2, 0, 1]])
        groups = SOME_GROUPS + (
            ("part", [4], "Group", "Six", "P"),
            ("part", [3], "Group", "P", "R"),
            ("part", [1], "Group", "R", "S"),
            ("tell", "Group", "S"),
        )
        self.assertEqual(ask(*groups)[6:], [[2, 0, 3], [2, 0, 1], with_text(2, TWO.replace("Two", "S"))])

    def test_of_a_quotient(self):
        calls = SOME_GROUPS + (("quotient", [0, 1], "Group", "Six", "Q"), ("part", [0], "Group", "Q", "P"))
        self.assertEqual(ask(*calls)[5:], [[2, 0, 0, 0, 3, 3, 3], [1, 0]])

    def test_of_the_largest(self):
        rows = " ".join(str((a + b) % 6) for a in range(6) for b in range(6))
        calls = (
            ("class", "(class C ((m 2)) ())"),
            ("instance", f"(instance C S 6 ((m {rows})))"),
            ("product", "C", "S", "S", "Most"),
            ("part", [1, 6], "C", "Most", "All"),
            ("part", [14], "C", "Most", "P"),
            ("part", [35], "C", "Most", "R"),
        )
        answered = ask(*calls)[2:]
        self.assertEqual(answered, [[36], [36] + list(range(36)), [3, 0, 14, 28], [6, 0, 7, 14, 21, 28, 35]])

    def test_counts_as_instance(self):
        calls = many_classes(1) + [("instance", "(instance C0 S 3 ())"), ("part", [1], "C0", "S", "P")]
        self.assertEqual(last(*calls, ("instance", "(instance C0 T 3 ())")), [3])
        self.assertEqual(last(*calls, ("instance", "(instance C0 P 3 ())")), [-2])

    def test_same_name_in_another_class(self):
        calls = SOME_GROUPS + (("class", "(class C () ())"), ("instance", "(instance C P 1 ())"))
        self.assertEqual(last(*calls, ("part", [3], "Group", "Four", "P")), [2, 0, 3])

    def test_name_of_many_bytes(self):
        name = "N" * 3000
        calls = SOME_GROUPS + (("part", [3], "Group", "Four", name), ("tell", "Group", name))
        self.assertEqual(ask(*calls)[5:], [[2, 0, 3], with_text(2, TWO.replace("Two", name))])


class Refusals(unittest.TestCase):
    def part(self, *rows, before=SOME_GROUPS):
        return last(*before, ("part",) + rows)

    def test_no_such_class_or_instance(self):
        for rows in (("No", "Two"), ("Group", "No"), ("", "Two"), ("Group", ""), ("Group", "two"), ("Group", "Two "),
                     ("Two", "Group"), ("", "")):
            for name in ("New", "new", "Two", ""):
                for chosen in ([], [0], [-1]):
                    self.assertEqual(self.part(chosen, *rows, name), [-3], rows)

    def test_instance_of_another_class(self):
        before = SOME_GROUPS + (("class", "(class C () ())"), ("instance", "(instance C S 1 ())"))
        self.assertEqual(self.part([0], "Group", "S", "New", before=before), [-3])
        self.assertEqual(self.part([0], "C", "Two", "New", before=before), [-3])

    def test_no_upper_name(self):
        for name in NO_UPPER_NAMES:
            self.assertEqual(self.part([0], "Group", "Two", name), [-1], name)
            self.assertEqual(self.part([7], "Group", "Two", name), [-1], name)

    def test_name_is_there(self):
        for name in ("Two", "Three", "Four"):
            self.assertEqual(self.part([0], "Group", "Two", name), [-2])
            self.assertEqual(self.part([7], "Group", "Two", name), [-2])
        again = SOME_GROUPS + (("part", [0], "Group", "Two", "P"),)
        self.assertEqual(self.part([0], "Group", "Two", "P", before=again), [-2])

    def test_31st_instance(self):
        before = many_classes(1) + many_instances(29) + [("part", [0], "C0", "S0", "P")]
        self.assertEqual(last(*before), [1, 0])
        for chosen in ([0], [], [1], [-1]):
            self.assertEqual(self.part(chosen, "C0", "P", "New", before=before), [-8])
        self.assertEqual(self.part([0], "C0", "S0", "P", before=before), [-2])
        self.assertEqual(self.part([0], "C0", "P", "new", before=before), [-1])
        self.assertEqual(self.part([0], "C0", "No", "new", before=before), [-3])

    def test_no_element(self):
        for number in (2, 3, -1, -2) + LARGE:
            self.assertEqual(self.part([number], "Group", "Two", "New"), [-5], number)
            self.assertEqual(self.part([0, 1, number], "Group", "Two", "New"), [-5], number)
            self.assertEqual(self.part([number, 1, 0], "Group", "Two", "New"), [-5], number)
        for number in (36, 37, -36) + LARGE:
            self.assertEqual(self.part([35, number], "C", "Most", "New", before=sized()), [-5], number)
        self.assertEqual(self.part([35], "C", "Most", "New", before=sized()), [1, 35])
        self.assertEqual(self.part([0] * 999 + [2], "Group", "Two", "New"), [-5])

    def test_empty(self):
        for text in ("()", "((f 1))", "((m 2))", "((f 1) (m 2))"):
            values = text.replace("f 1", "f 0 1").replace("m 2", "m 0 1 1 0")
            before = [("class", f"(class C {text} ())"), ("instance", f"(instance C S 2 {values})")]
            self.assertEqual(self.part([], "C", "S", "New", before=before), [-6], text)
            self.assertEqual(self.part([-1], "C", "S", "New", before=before), [-5], text)
            self.assertEqual(self.part([], "C", "S", "S", before=before), [-2], text)
            self.assertEqual(self.part([], "C", "S", "s", before=before), [-1], text)
            self.assertEqual(self.part([], "C", "No", "New", before=before), [-3], text)

    def test_refused_part_is_not_there(self):
        before = many_classes(1) + [("instance", "(instance C0 S 3 ())")]
        for refused in (("part", [], "C0", "S", "New"), ("part", [3], "C0", "S", "New")):
            calls = before + [refused, ("tell", "C0", "New"), ("instance", "(instance C0 New 1 ())")]
            self.assertEqual(ask(*calls)[3:], [[-3], [2]])


if __name__ == "__main__":
    unittest.main()
