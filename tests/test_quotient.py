import itertools
import unittest

from tests.helper import FOUR, LARGE, NO_UPPER_NAMES, SOME_GROUPS, THREE, TWO, ask, from_rule, last
from tests.helper import many_classes, many_instances, plain_class, scrambled, sized, with_text


def one_with(instance, chosen):
    """For each element the least that it's one with, worked out by a relation that's widened as the words say."""
    size = instance.size
    one = {(a, a) for a in range(size)}
    wider = one | set(zip(chosen[::2], chosen[1::2]))
    while wider != one:
        one = wider
        wider = one | {(b, a) for a, b in one}
        wider |= {(a, d) for a, b in wider for c, d in wider if b == c}
        for table in instance.tables:
            for row, other in itertools.product(table, repeat=2):
                if all(pair in wider for pair in zip(row, other)):
                    wider.add((table[row], table[other]))
    return [min(b for b in range(size) if (a, b) in one) for a in range(size)]


class Quotients(unittest.TestCase):
    def check(self, instance, chosen, least):
        arities = [len(next(iter(table))) for table in instance.tables]
        calls = [plain_class(arities), ("instance", instance.text("S")), ("quotient", chosen, "M", "S", "Q")]
        answered = ask(*calls, ("tell", "M", "Q"), ("tell", "M", "S"))[2:]
        size = len(set(least))
        self.assertEqual(answered[0], [size] + least, chosen)
        quotient = instance.numbered_anew(sorted(set(least)), least)
        self.assertEqual(answered[1], with_text(size, quotient.text("Q")), chosen)
        self.assertEqual(answered[2], with_text(instance.size, instance.text("S")), chosen)

    def plain(self, chosen):
        """A quotient of 7 elements where no operation minds."""
        return last(*sized(7), ("quotient", chosen, "C", "N7", "Q"))

    def test_example(self):
        calls = SOME_GROUPS + (("quotient", [1, 2], "Group", "Four", "Q"), ("tell", "Group", "Q"))
        self.assertEqual(ask(*calls)[5:], [[2, 0, 1, 1, 0], with_text(2, TWO.replace("Two", "Q"))])

    def test_no_pairs(self):
        calls = SOME_GROUPS + (("quotient", [], "Group", "Four", "Q"), ("tell", "Group", "Q"))
        self.assertEqual(ask(*calls)[5:], [[4, 0, 1, 2, 3], with_text(4, FOUR.replace("Four", "Q"))])
        self.assertEqual(self.plain([]), [7, 0, 1, 2, 3, 4, 5, 6])
        self.check(scrambled(5, 5, (0, 1, 2)), [], [0, 1, 2, 3, 4])

    def test_with_itself(self):
        self.assertEqual(last(*SOME_GROUPS, ("quotient", [2, 2], "Group", "Four", "Q")), [4, 0, 1, 2, 3])
        self.assertEqual(self.plain([6, 6, 0, 0, 3, 3, 3, 3]), [7, 0, 1, 2, 3, 4, 5, 6])
        self.assertEqual(self.plain([6, 6, 6, 0]), [6, 0, 1, 2, 3, 4, 5, 0])

    def test_either_way_round(self):
        self.assertEqual(self.plain([2, 5]), [6, 0, 1, 2, 3, 4, 2, 6])
        self.assertEqual(self.plain([5, 2]), [6, 0, 1, 2, 3, 4, 2, 6])
        self.assertEqual(self.plain([5, 2, 2, 5]), [6, 0, 1, 2, 3, 4, 2, 6])

    def test_chains_in_any_order(self):
        chain = [(1, 3), (3, 6), (6, 4)]
        for order in itertools.permutations(chain):
            for turned in itertools.product((1, -1), repeat=3):
                numbers = [number for pair, way in zip(order, turned) for number in pair[::way]]
                self.assertEqual(self.plain(numbers), [4, 0, 1, 2, 1, 1, 5, 1], numbers)

    def test_several_chains(self):
        self.assertEqual(self.plain([6, 5, 1, 2, 4, 5, 2, 3]), [3, 0, 1, 1, 1, 4, 4, 4])
        self.assertEqual(self.plain([6, 5, 1, 2, 4, 5, 2, 3, 3, 6]), [2, 0, 1, 1, 1, 1, 1, 1])
        self.assertEqual(self.plain([5, 6, 3, 4, 1, 2, 4, 5, 2, 3, 0, 1]), [1] + [0] * 7)

    def test_new_numbers_are_by_the_least(self):
        instance = from_rule(6, lambda: 5, lambda a: a, lambda a, b: a)
        self.check(instance, [5, 1, 4, 3], [0, 1, 2, 3, 3, 1])
        calls = (
            ("class", "(class C ((e 0) (f 1)) ())"),
            ("instance", "(instance C S 5 ((e 4) (f 2 2 3 0 0)))"),
            ("quotient", [4, 1], "C", "S", "Q"),
            ("tell", "C", "Q"),
        )
        # f gives 2 and 0 to 1 and 4, then 3 and 2 to 2 and 0: 0, 2 and 3 are one.
        self.assertEqual(ask(*calls)[2:], [[2, 0, 1, 0, 0, 1], with_text(2, "(instance C Q 2 ((e 1) (f 0 0)))")])

    def test_one_argument_over_several_steps(self):
        self.check(from_rule(6, lambda a: (a + 1) % 6), [0, 3], [0, 1, 2, 0, 1, 2])
        self.check(from_rule(6, lambda a: (a + 1) % 6), [5, 3], [0, 1, 0, 1, 0, 1])
        self.check(from_rule(6, lambda a: (a + 1) % 6), [0, 3, 1, 3], [0, 0, 0, 0, 0, 0])
        self.check(from_rule(6, lambda a: max(a - 1, 0)), [5, 4], [0, 0, 0, 0, 0, 0])
        self.check(from_rule(6, lambda a: max(a - 1, 0)), [2, 1], [0, 0, 0, 3, 4, 5])
        self.check(from_rule(6, lambda a: min(a + 1, 5)), [3, 4], [0, 1, 2, 3, 3, 3])

    def test_two_arguments_at_each_place(self):
        # Only the first argument counts, then only the second.
        self.check(from_rule(5, lambda a, b: max(a - 1, 0)), [3, 2], [0, 0, 0, 0, 4])
        self.check(from_rule(5, lambda a, b: max(b - 1, 0)), [3, 2], [0, 0, 0, 0, 4])
        # Values are unlike at the rows (1, 3) and (2, 4), and these are one in both places.
        self.check(from_rule(6, lambda a, b: 5 if (a, b) == (2, 4) else 0), [1, 2, 3, 4], [0, 1, 1, 3, 3, 0])
        self.check(from_rule(6, lambda a, b: 5 if (a, b) == (2, 4) else 0), [1, 3], [0, 1, 2, 1, 4, 5])
        self.check(from_rule(6, lambda a, b: 5 if (a, b) == (2, 4) else 0), [2, 3], [0, 1, 2, 2, 4, 0])

    def test_operations_lead_on_to_one_another(self):
        # 0 and 1 make 2 and 3 one, by the first; these make 0, 4 and 5 one, by the second.
        later = {(2, 2): 4, (3, 3): 5}
        instance = from_rule(6, lambda a: (2, 3, 2, 3, 2, 2)[a], lambda a, b: later.get((a, b), 0))
        self.check(instance, [0, 1], [0, 0, 2, 2, 0, 0])
        self.assertEqual(one_with(instance, [0, 1]), [0, 0, 2, 2, 0, 0])
        # With 2 and 4 left as they are, all become one.
        instance = from_rule(6, lambda a: (2, 3, 2, 3, 4, 5)[a], lambda a, b: later.get((a, b), 0))
        self.check(instance, [0, 1], [0] * 6)
        self.assertEqual(one_with(instance, [0, 1]), [0] * 6)

    def test_constants_alone_lead_to_nothing(self):
        self.check(from_rule(4, lambda: 2, lambda: 3), [0, 1], [0, 0, 2, 3])
        self.check(from_rule(4, lambda: 2, lambda: 3), [3, 1], [0, 1, 2, 1])
        self.check(from_rule(4, lambda: 2, lambda: 3), [3, 2], [0, 1, 2, 2])

    def test_all_made_one(self):
        for pair in ([0, 1], [2, 1], [0, 2]):
            calls = SOME_GROUPS + (("quotient", pair, "Group", "Three", "Q"), ("tell", "Group", "Q"))
            told = with_text(1, "(instance Group Q 1 ((e 0) (inv 0) (mul 0)))")
            self.assertEqual(ask(*calls)[5:], [[1, 0, 0, 0], told])
        self.assertEqual(last(*SOME_GROUPS, ("quotient", [0, 4], "Group", "Six", "Q")), [1] + [0] * 6)

    def test_one_element_in_all(self):
        instance = from_rule(1, lambda: 0, lambda a: 0, lambda a, b: 0)
        self.check(instance, [], [0])
        self.check(instance, [0, 0], [0])

    def test_all_pairs_of_scrambled_instances(self):
        sizes = set()
        for seed, arities in enumerate(((1,), (1, 0), (2,), (0, 1), (1, 1), (0, 0), (1, 2))):
            for size in (2, 3, 5):
                for again in range(3):
                    instance = scrambled(seed * 11 + size + again * 101, size, arities)
                    for chosen in itertools.combinations(range(size), 2):
                        least = one_with(instance, chosen)
                        sizes.add(len(set(least)))
                        self.check(instance, chosen, least)
        self.assertEqual(sizes, {1, 2, 3, 4})

    def test_two_pairs_of_scrambled_instances(self):
        for seed in range(8):
            instance = scrambled(seed, 6, (1, 0, 1))
            for chosen in ((0, 1, 2, 3), (5, 4, 1, 4), (3, 0, 0, 3), (2, 2, 5, 1), (5, 0, 4, 1, 3, 2)):
                self.check(instance, chosen, one_with(instance, chosen))

    def test_of_a_product(self):
        calls = SOME_GROUPS + (
            ("product", "Group", "Six", "Two", "Twelve"),
            ("quotient", [1, 6], "Group", "Twelve", "Q"),
            ("tell", "Group", "Q"),
        )
        # Elements stand for x, y, z of sizes 2, 3, 2; what's left are y and the sum of x and z.
        least = [a // 2 % 3 * 2 + (a // 6 + a % 2) % 2 for a in range(12)]
        answered = ask(*calls)[5:]
        self.assertEqual(answered[:2], [[12], [6] + least])
        inverse = " ".join(str(-(a // 2) % 3 * 2 + a % 2) for a in range(6))
        mul = " ".join(str((a // 2 + b // 2) % 3 * 2 + (a + b) % 2) for a in range(6) for b in range(6))
        self.assertEqual(answered[2], with_text(6, f"(instance Group Q 6 ((e 0) (inv {inverse}) (mul {mul})))"))

    def test_of_a_quotient_and_of_a_part(self):
        calls = sized(8) + [
            ("quotient", [1, 3, 3, 5], "C", "N8", "Q"),
            ("quotient", [5, 1, 4, 4], "C", "Q", "R"),
            ("quotient", [6, 1], "C", "Q", "S"),
            ("quotient", [5, 1], "C", "R", "S"),
            ("quotient", [4, 3], "C", "R", "S"),
        ]
        answered = ask(*calls)[4:]
        self.assertEqual(answered[:2], [[6, 0, 1, 2, 1, 4, 1, 6, 7], [5, 0, 1, 2, 3, 4, 1]])
        self.assertEqual(answered[2:], [[-5], [-5], [4, 0, 1, 2, 3, 3]])
        groups = SOME_GROUPS + (
            ("quotient", [0, 3], "Group", "Six", "Q"),
            ("tell", "Group", "Q"),
            ("quotient", [1, 0], "Group", "Q", "R"),
            ("part", [3], "Group", "Six", "P"),
            ("quotient", [], "Group", "P", "S"),
            ("tell", "Group", "S"),
        )
        three = with_text(3, THREE.replace("Three", "Q"))
        expected = [[3, 0, 1, 2, 0, 1, 2], three, [1, 0, 0, 0], [2, 0, 3], [2, 0, 1],
                    with_text(2, TWO.replace("Two", "S"))]
        self.assertEqual(ask(*groups)[5:], expected)

    def test_of_the_largest(self):
        rows = " ".join(str((a + b) % 6) for a in range(6) for b in range(6))
        calls = (
            ("class", "(class C ((m 2)) ())"),
            ("instance", f"(instance C S 6 ((m {rows})))"),
            ("product", "C", "S", "S", "Most"),
            ("quotient", [], "C", "Most", "All"),
            ("quotient", [35, 0], "C", "Most", "Q"),
            ("quotient", [0, 2, 0, 12], "C", "Most", "R"),
            ("quotient", [1, 0, 6, 0], "C", "Most", "One"),
        )
        answered = ask(*calls)[3:]
        self.assertEqual(answered[0], [36] + list(range(36)))
        self.assertEqual(answered[1], [6] + [(a % 6 - a // 6) % 6 for a in range(36)])
        self.assertEqual(answered[2], [4] + [a // 6 % 2 * 6 + a % 2 for a in range(36)])
        self.assertEqual(answered[3], [1] + [0] * 36)

    def test_a_thousand_numbers(self):
        self.assertEqual(last(*sized(), ("quotient", [35, 34] * 500, "C", "Most", "Q")),
                         [35] + list(range(35)) + [34])
        pairs = [number for a in range(35) for number in (a, a + 1)]
        self.assertEqual(last(*sized(), ("quotient", pairs[::-1], "C", "Most", "Q")), [1] + [0] * 36)

    def test_counts_as_instance(self):
        calls = many_classes(1) + [("instance", "(instance C0 S 3 ())"), ("quotient", [1, 2], "C0", "S", "Q")]
        self.assertEqual(last(*calls, ("instance", "(instance C0 T 3 ())")), [3])
        self.assertEqual(last(*calls, ("instance", "(instance C0 Q 3 ())")), [-2])

    def test_same_name_in_another_class(self):
        calls = SOME_GROUPS + (("class", "(class C () ())"), ("instance", "(instance C Q 1 ())"))
        self.assertEqual(last(*calls, ("quotient", [1, 2], "Group", "Four", "Q")), [2, 0, 1, 1, 0])

    def test_name_of_many_bytes(self):
        name = "N" * 3000
        calls = SOME_GROUPS + (("quotient", [1, 2], "Group", "Four", name), ("tell", "Group", name))
        self.assertEqual(ask(*calls)[5:], [[2, 0, 1, 1, 0], with_text(2, TWO.replace("Two", name))])


class Refusals(unittest.TestCase):
    def quotient(self, *rows, before=SOME_GROUPS):
        return last(*before, ("quotient",) + rows)

    def test_no_such_class_or_instance(self):
        for rows in (("No", "Two"), ("Group", "No"), ("", "Two"), ("Group", ""), ("Group", "two"), ("Group", "Two "),
                     ("Two", "Group"), ("", "")):
            for name in ("New", "new", "Two", ""):
                for chosen in ([], [0], [-1, 0]):
                    self.assertEqual(self.quotient(chosen, *rows, name), [-3], rows)

    def test_instance_of_another_class(self):
        before = SOME_GROUPS + (("class", "(class C () ())"), ("instance", "(instance C S 1 ())"))
        self.assertEqual(self.quotient([], "Group", "S", "New", before=before), [-3])
        self.assertEqual(self.quotient([], "C", "Two", "New", before=before), [-3])

    def test_no_upper_name(self):
        for name in NO_UPPER_NAMES:
            for chosen in ([], [0], [7, 7]):
                self.assertEqual(self.quotient(chosen, "Group", "Two", name), [-1], name)

    def test_name_is_there(self):
        for name in ("Two", "Three", "Four"):
            for chosen in ([], [0], [7, 7]):
                self.assertEqual(self.quotient(chosen, "Group", "Two", name), [-2])
        again = SOME_GROUPS + (("quotient", [], "Group", "Two", "Q"),)
        self.assertEqual(self.quotient([], "Group", "Two", "Q", before=again), [-2])

    def test_31st_instance(self):
        before = many_classes(1) + many_instances(29) + [("quotient", [0, 0], "C0", "S0", "Q")]
        self.assertEqual(last(*before), [1, 0])
        for chosen in ([], [0, 0], [0], [0, 1], [-1]):
            self.assertEqual(self.quotient(chosen, "C0", "Q", "New", before=before), [-8])
        self.assertEqual(self.quotient([], "C0", "S0", "Q", before=before), [-2])
        self.assertEqual(self.quotient([], "C0", "Q", "new", before=before), [-1])
        self.assertEqual(self.quotient([], "C0", "No", "new", before=before), [-3])

    def test_no_element(self):
        for number in (2, 3, -1, -2) + LARGE:
            for chosen in ([number, 0], [0, number], [number, number], [0, 1, 1, number], [number, 0, 1, 1]):
                self.assertEqual(self.quotient(chosen, "Group", "Two", "New"), [-5], chosen)
        for number in (36, 37, -36) + LARGE:
            self.assertEqual(self.quotient([35, number], "C", "Most", "New", before=sized()), [-5], number)
        self.assertEqual(self.quotient([0] * 999 + [2], "Group", "Two", "New"), [-5])

    def test_odd_number_of_numbers(self):
        for chosen in ([0], [1], [0, 0, 0], [0, 1, 0], [0] * 999, [7], [0, 1, 7]):
            self.assertEqual(self.quotient(chosen, "Group", "Two", "New"), [-5], chosen)
        self.assertEqual(self.quotient([0], "C0", "S0", "New", before=many_classes(1) + many_instances(1)), [-5])

    def test_refused_quotient_is_not_there(self):
        before = many_classes(1) + [("instance", "(instance C0 S 3 ())")]
        for chosen in ([0], [0, 3]):
            calls = before + [("quotient", chosen, "C0", "S", "New"), ("tell", "C0", "New"), ("tell", "C0", "S"),
                              ("instance", "(instance C0 New 1 ())")]
            self.assertEqual(ask(*calls)[2:], [[-5], [-3], with_text(3, "(instance C0 S 3 ())"), [2]])


if __name__ == "__main__":
    unittest.main()
