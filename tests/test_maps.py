import itertools
import unittest

from tests.helper import LARGE, SOME_GROUPS, TWO, ask, from_rule, last, many_classes, plain_class, scrambled, sized


def is_map(row, first, second):
    for table, other in zip(first.tables, second.tables):
        for arguments, value in table.items():
            if row[value] != other[tuple(row[argument] for argument in arguments)]:
                return False
    return True


def all_maps(first, second):
    """Each row is looked at, in order."""
    rows = itertools.product(range(second.size), repeat=first.size)
    return [list(row) for row in rows if is_map(row, first, second)]


def answer_of(found, most):
    return [len(found)] + list(itertools.chain(*found[:most]))


class Maps(unittest.TestCase):
    def check(self, first, second, found):
        arities = [len(next(iter(table))) for table in first.tables]
        calls = [plain_class(arities), ("instance", first.text("S")), ("instance", second.text("T"))]
        limits = (0, 1, 2, len(found) // 2 % 101, 99, 100)
        answered = ask(*calls, *[("maps", most, "M", "S", "T") for most in limits])[3:]
        self.assertEqual(answered, [answer_of(found, most) for most in limits])

    def test_example(self):
        self.assertEqual(last(*SOME_GROUPS, ("maps", 9, "Group", "Four", "Two")),
                         [4, 0, 0, 0, 0, 0, 0, 1, 1, 0, 1, 0, 1, 0, 1, 1, 0])

    def test_most(self):
        rows = [0, 0, 0, 0, 0, 0, 1, 1, 0, 1, 0, 1, 0, 1, 1, 0]
        for most in range(8):
            self.assertEqual(last(*SOME_GROUPS, ("maps", most, "Group", "Four", "Two")), [4] + rows[:4 * most])
        self.assertEqual(last(*SOME_GROUPS, ("maps", 100, "Group", "Four", "Two")), [4] + rows)

    def test_one(self):
        for most, rows in ((0, []), (1, [0, 0, 0]), (100, [0, 0, 0])):
            self.assertEqual(last(*SOME_GROUPS, ("maps", most, "Group", "Three", "Two")), [1] + rows)
        self.assertEqual(last(*SOME_GROUPS, ("maps", 5, "Group", "Two", "Three")), [1, 0, 0])

    def test_none(self):
        # The first has an element that f leaves as it is, the second has none.
        calls = (
            ("class", "(class C ((f 1)) ())"),
            ("instance", "(instance C S 3 ((f 1 0 2)))"),
            ("instance", "(instance C T 2 ((f 1 0)))"),
        )
        for most in (0, 1, 100):
            self.assertEqual(last(*calls, ("maps", most, "C", "S", "T")), [0])
            self.assertEqual(last(*calls, ("maps", most, "C", "T", "S"))[0], 3)
        self.assertEqual(last(*calls, ("maps", 9, "C", "T", "S")), [3, 0, 1, 1, 0, 2, 2])

    def test_none_that_is_seen_at_the_first_and_at_the_last_element(self):
        for spoiled in range(4):
            first = from_rule(4, lambda a: a)
            second = from_rule(3, lambda a: a)
            first.tables[0][(spoiled,)] = (spoiled + 1) % 4
            self.check(first, second, all_maps(first, second))
            second = from_rule(3, lambda a: (a + 1) % 3)
            self.assertEqual(all_maps(first, second), [])
            self.check(first, second, [])

    def test_to_itself(self):
        self.assertEqual(last(*SOME_GROUPS, ("maps", 9, "Group", "Three", "Three")), [3, 0, 0, 0, 0, 1, 2, 0, 2, 1])
        self.assertEqual(last(*SOME_GROUPS, ("maps", 9, "Group", "Two", "Two")), [2, 0, 0, 0, 1])
        four = last(*SOME_GROUPS, ("maps", 100, "Group", "Four", "Four"))
        self.assertEqual(four[0], 16)
        rows = [four[1 + 4 * k:5 + 4 * k] for k in range(16)]
        self.assertEqual(rows, [[0, a, b, a ^ b] for a in range(4) for b in range(4)])
        for seed in range(6):
            instance = scrambled(seed, 4, (1,))
            self.check(instance, instance, all_maps(instance, instance))
            self.assertIn([0, 1, 2, 3], all_maps(instance, instance))

    def test_class_without_operations(self):
        before = sized(1, 2, 3, 4)
        for n, m in itertools.product((1, 2, 3, 4), repeat=2):
            rows = [list(row) for row in itertools.product(range(m), repeat=n)]
            for most in (0, 1, 100):
                self.assertEqual(last(*before, ("maps", most, "C", f"N{n}", f"N{m}")), answer_of(rows, most))

    def test_no_arguments(self):
        self.check(from_rule(2, lambda: 1), from_rule(3, lambda: 2), [[0, 2], [1, 2], [2, 2]])
        self.check(from_rule(3, lambda: 0), from_rule(2, lambda: 1), [[1, 0, 0], [1, 0, 1], [1, 1, 0], [1, 1, 1]])
        self.check(from_rule(2, lambda: 1, lambda: 0), from_rule(3, lambda: 2, lambda: 1), [[1, 2]])
        self.check(from_rule(2, lambda: 1, lambda: 1), from_rule(3, lambda: 2, lambda: 1), [])

    def test_one_argument(self):
        self.check(from_rule(2, lambda a: 1 - a), from_rule(4, lambda a: 3 - a), [[0, 3], [1, 2], [2, 1], [3, 0]])
        self.check(from_rule(3, lambda a: min(a + 1, 2)), from_rule(3, lambda a: min(a + 1, 2)),
                   [[0, 1, 2], [1, 2, 2], [2, 2, 2]])
        self.check(from_rule(3, lambda a: max(a - 1, 0)), from_rule(2, lambda a: 0), [[0, 0, 0], [0, 0, 1]])

    def test_two_arguments(self):
        def lesser(a, b):
            return min(a, b)

        self.check(from_rule(2, lesser), from_rule(3, lesser),
                   [[0, 0], [0, 1], [0, 2], [1, 1], [1, 2], [2, 2]])
        self.check(from_rule(3, lesser), from_rule(2, lambda a, b: max(a, b)),
                   [[0, 0, 0], [1, 0, 0], [1, 1, 0], [1, 1, 1]])
        # Places count: (0, 1) and (1, 0) have unlike values.
        self.check(from_rule(2, lambda a, b: a), from_rule(2, lambda a, b: b), [[0, 0], [1, 1]])
        self.check(from_rule(2, lambda a, b: a), from_rule(2, lambda a, b: a), [[0, 0], [0, 1], [1, 0], [1, 1]])

    def test_all_of_scrambled_instances(self):
        counts = set()
        for seed, arities in enumerate(((1,), (0, 1), (2,), (1, 1), (0, 0), (2, 1), (0,), (1, 0, 2))):
            for n, m in ((1, 4), (2, 3), (3, 2), (3, 3), (5, 2), (2, 6), (4, 3)):
                for again in range(3):
                    first = scrambled(seed * 13 + n + again * 71, n, arities)
                    second = scrambled(seed * 17 + m + again * 37, m, arities)
                    found = all_maps(first, second)
                    counts.add(len(found))
                    self.check(first, second, found)
        self.assertTrue({0, 1, 2, 3, 4, 9} <= counts, counts)

    def test_of_products_parts_and_quotients(self):
        calls = SOME_GROUPS + (
            ("part", [3], "Group", "Six", "P"),
            ("quotient", [1, 0], "Group", "Six", "Q"),
            ("maps", 100, "Group", "P", "Q"),
            ("maps", 100, "Group", "Six", "P"),
            ("maps", 100, "Group", "Q", "Six"),
            ("maps", 100, "Group", "Four", "Six"),
        )
        one = [2, 0, 0, 0, 0, 0, 0, 0, 0, 0, 1, 1, 1]
        other = [2, 0, 0, 0, 3]
        four = [4] + [0] * 4 + [0, 0, 3, 3] + [0, 3, 0, 3] + [0, 3, 3, 0]
        self.assertEqual(ask(*calls)[7:], [[2, 0, 0, 0, 1], one, other, four])

    def test_order_of_rows(self):
        answered = last(*sized(3, 4), ("maps", 100, "C", "N3", "N4"))
        rows = [tuple(answered[1 + 3 * k:4 + 3 * k]) for k in range(64)]
        self.assertEqual(answered[0], 64)
        self.assertEqual(len(answered), 1 + 3 * 64)
        self.assertEqual(rows, sorted(set(rows)))

    def test_changes_nothing(self):
        calls = SOME_GROUPS + (("maps", 9, "Group", "Four", "Two"),) * 2
        answered = ask(*calls, ("instance", TWO.replace("Two", "New")))
        self.assertEqual(answered[5], answered[6])
        self.assertEqual(answered[7], [5])


class Sizes(unittest.TestCase):
    def count(self, n, m):
        answered = last(*sized(*sorted({n, m})), ("maps", 0, "C", f"N{n}", f"N{m}"))
        self.assertEqual(len(answered), 1)
        return answered[0]

    def test_just_below(self):
        for n, m in ((3, 17), (12, 2), (4, 8), (5, 5), (6, 4), (7, 3), (2, 36), (1, 36), (36, 1), (1, 1), (35, 1)):
            self.assertEqual(self.count(n, m), m ** n, (n, m))

    def test_above(self):
        for n, m in ((3, 18), (13, 2), (4, 9), (5, 6), (6, 5), (8, 3), (36, 2), (36, 36), (36, 35), (3, 36), (35, 2)):
            self.assertEqual(self.count(n, m), -6, (n, m))

    def test_the_sizes_are_not_exchanged(self):
        self.assertEqual(self.count(2, 36), 1296)
        self.assertEqual(self.count(36, 2), -6)
        self.assertEqual(self.count(3, 13), 2197)
        self.assertEqual(self.count(13, 3), -6)

    def test_1_and_36_with_operations(self):
        values = " ".join(str((a + b) % 6) for a in range(6) for b in range(6))
        calls = (
            ("class", "(class C ((e 0) (f 1) (m 2)) ())"),
            ("instance", f"(instance C S 6 ((e 0) (f 0 5 4 3 2 1) (m {values})))"),
            ("instance", "(instance C One 1 ((e 0) (f 0) (m 0)))"),
            ("product", "C", "S", "S", "Most"),
            ("maps", 100, "C", "Most", "One"),
            ("maps", 100, "C", "One", "Most"),
            ("maps", 100, "C", "Most", "Most"),
            ("maps", 100, "C", "One", "One"),
        )
        self.assertEqual(ask(*calls)[4:], [[1] + [0] * 36, [1, 0], [-6], [1, 0]])

    def test_36_rows_of_one(self):
        self.assertEqual(last(*sized(1), ("maps", 100, "C", "N1", "Most")), [36] + list(range(36)))
        self.assertEqual(last(*sized(1), ("maps", 7, "C", "N1", "Most")), [36] + list(range(7)))

    def test_hundred_rows_of_many(self):
        rows = list(itertools.product(range(2), repeat=12))
        answered = last(*sized(12, 2), ("maps", 100, "C", "N12", "N2"))
        self.assertEqual(answered, answer_of(rows, 100))
        self.assertEqual(len(answered), 1201)


class Refusals(unittest.TestCase):
    def maps(self, *rows, before=SOME_GROUPS):
        return last(*before, ("maps",) + rows)

    def test_no_such_class_or_instance(self):
        for rows in (("No", "Two", "Two"), ("Group", "No", "Two"), ("Group", "Two", "No"), ("", "Two", "Two"),
                     ("Group", "", "Two"), ("Group", "Two", ""), ("Group", "Two", "two"), ("Group ", "Two", "Two")):
            for most in (0, 9, -1, 101, 10 ** 18):
                self.assertEqual(self.maps(most, *rows), [-3], rows)

    def test_instance_of_another_class(self):
        before = SOME_GROUPS + (("class", "(class C () ())"), ("instance", "(instance C S 1 ())"))
        self.assertEqual(self.maps(1, "Group", "Two", "S", before=before), [-3])
        self.assertEqual(self.maps(1, "Group", "S", "Two", before=before), [-3])
        self.assertEqual(self.maps(1, "C", "S", "Two", before=before), [-3])

    def test_most(self):
        for most in (-1, -2, 101, 102, -100) + LARGE:
            self.assertEqual(self.maps(most, "Group", "Four", "Two"), [-5], most)
        for most in (0, 1, 99, 100):
            self.assertEqual(self.maps(most, "Group", "Four", "Two")[0], 4, most)

    def test_most_ahead_of_sizes(self):
        for most in (-1, 101) + LARGE:
            self.assertEqual(self.maps(most, "C", "Most", "Most", before=sized()), [-5], most)
        for most in (0, 100):
            self.assertEqual(self.maps(most, "C", "Most", "Most", before=sized()), [-6], most)

    def test_number_of_instances_is_not_asked_for(self):
        full = many_classes(1) + [("instance", f"(instance C0 S{k} 2 ())") for k in range(30)]
        self.assertEqual(self.maps(2, "C0", "S0", "S29", before=full), [4, 0, 0, 0, 1])


if __name__ == "__main__":
    unittest.main()
