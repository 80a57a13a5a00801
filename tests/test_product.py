import unittest

from tests.helper import FOUR, GROUP, NO_UPPER_NAMES, THREE, TWO, ask, last, many_classes, many_instances, with_text

GROUPS = (("class", GROUP), ("instance", TWO), ("instance", THREE))
MIXED = (
    ("class", "(class Mixed ((e 0) (f 1) (m 2)) ())"),
    ("instance", "(instance Mixed S 2 ((e 1) (f 1 1) (m 0 1 1 1)))"),
    ("instance", "(instance Mixed T 3 ((e 2) (f 1 2 0) (m 0 1 2 2 1 0 1 1 2)))"),
)
S = (2, 1, (1, 1), ((0, 1), (1, 1)))
T = (3, 2, (1, 2, 0), ((0, 1, 2), (2, 1, 0), (1, 1, 2)))


def paired(one, other):
    """The product of two such rows, worked out pair by pair."""
    pairs = [(a, b) for a in range(one[0]) for b in range(other[0])]
    number = {pair: place for place, pair in enumerate(pairs)}
    unary = tuple(number[(one[2][a], other[2][b])] for a, b in pairs)
    binary = tuple(tuple(number[(one[3][a][c], other[3][b][d])] for c, d in pairs) for a, b in pairs)
    return (len(pairs), number[(one[1], other[1])], unary, binary)


def told(name, instance):
    unary = " ".join(str(v) for v in instance[2])
    binary = " ".join(str(v) for row in instance[3] for v in row)
    text = f"(instance Mixed {name} {instance[0]} ((e {instance[1]}) (f {unary}) (m {binary})))"
    return with_text(instance[0], text)


class Products(unittest.TestCase):
    def test_example(self):
        calls = GROUPS + (("product", "Group", "Two", "Two", "Four"), ("tell", "Group", "Four"))
        self.assertEqual(ask(*calls)[3:], [[4], with_text(4, FOUR)])

    def test_unlike_sizes_in_both_orders(self):
        calls = MIXED + (
            ("product", "Mixed", "S", "T", "ST"),
            ("product", "Mixed", "T", "S", "TS"),
            ("tell", "Mixed", "ST"),
            ("tell", "Mixed", "TS"),
        )
        self.assertEqual(ask(*calls)[3:], [[6], [6], told("ST", paired(S, T)), told("TS", paired(T, S))])
        self.assertNotEqual(paired(S, T), paired(T, S))

    def test_written_out_by_hand(self):
        calls = (
            ("class", "(class C ((e 0) (f 1)) ())"),
            ("instance", "(instance C A 2 ((e 1) (f 1 0)))"),
            ("instance", "(instance C B 3 ((e 0) (f 1 2 2)))"),
            ("product", "C", "A", "B", "AB"),
            ("product", "C", "B", "A", "BA"),
            ("tell", "C", "AB"),
            ("tell", "C", "BA"),
        )
        one = with_text(6, "(instance C AB 6 ((e 3) (f 4 5 5 1 2 2)))")
        other = with_text(6, "(instance C BA 6 ((e 1) (f 3 2 5 4 5 4)))")
        self.assertEqual(ask(*calls)[-2:], [one, other])

    def test_with_itself(self):
        calls = MIXED + (("product", "Mixed", "T", "T", "TT"), ("tell", "Mixed", "TT"))
        self.assertEqual(ask(*calls)[3:], [[9], told("TT", paired(T, T))])

    def test_of_products(self):
        calls = MIXED + (
            ("product", "Mixed", "S", "T", "ST"),
            ("product", "Mixed", "ST", "T", "STT"),
            ("product", "Mixed", "ST", "ST", "STST"),
            ("tell", "Mixed", "STT"),
            ("tell", "Mixed", "STST"),
        )
        answered = ask(*calls)
        six = paired(S, T)
        self.assertEqual(answered[3:6], [[6], [18], [36]])
        self.assertEqual(answered[6:], [told("STT", paired(six, T)), told("STST", paired(six, six))])

    def test_old_ones_stay_as_they_are(self):
        calls = MIXED + (("product", "Mixed", "S", "T", "ST"), ("tell", "Mixed", "S"), ("tell", "Mixed", "T"))
        self.assertEqual(ask(*calls)[4:], [told("S", S), told("T", T)])

    def test_class_without_operations(self):
        calls = many_classes(1) + [("instance", f"(instance C0 S{n} {n} ())") for n in (1, 5, 6)]
        calls += [("product", "C0", "S5", "S6", "Thirty"), ("product", "C0", "S1", "S1", "One")]
        self.assertEqual(ask(*calls)[4:], [[30], [1]])

    def test_counts_as_instance(self):
        calls = GROUPS + (("product", "Group", "Two", "Three", "Six"), ("instance", FOUR))
        self.assertEqual(last(*calls), [4])

    def test_name_of_many_bytes(self):
        name = "N" * 3000
        calls = GROUPS + (("product", "Group", "Two", "Two", name), ("tell", "Group", name))
        self.assertEqual(ask(*calls)[3:], [[4], with_text(4, FOUR.replace("Four", name))])

    def test_same_name_in_another_class(self):
        calls = GROUPS + (("class", "(class C () ())"), ("instance", "(instance C P 1 ())"))
        self.assertEqual(last(*calls, ("product", "Group", "Two", "Two", "P")), [4])


class Refusals(unittest.TestCase):
    def product(self, *rows, before=GROUPS):
        return last(*before, ("product",) + rows)

    def test_no_such_class_or_instance(self):
        for rows in (("No", "Two", "Two"), ("Group", "No", "Two"), ("Group", "Two", "No"), ("", "Two", "Two"),
                     ("Group", "", "Two"), ("Group", "Two", ""), ("Group", "Two", "two"), ("Group ", "Two", "Two")):
            self.assertEqual(self.product(*rows, "New"), [-3], rows)
            self.assertEqual(self.product(*rows, "new"), [-3], rows)
            self.assertEqual(self.product(*rows, "Two"), [-3], rows)

    def test_instance_of_another_class(self):
        before = GROUPS + (("class", "(class C () ())"), ("instance", "(instance C S 1 ())"))
        self.assertEqual(self.product("Group", "Two", "S", "New", before=before), [-3])
        self.assertEqual(self.product("C", "S", "Two", "New", before=before), [-3])

    def test_no_upper_name(self):
        for name in NO_UPPER_NAMES:
            self.assertEqual(self.product("Group", "Two", "Two", name), [-1], name)

    def test_name_is_there(self):
        self.assertEqual(self.product("Group", "Two", "Two", "Two"), [-2])
        self.assertEqual(self.product("Group", "Two", "Two", "Three"), [-2])
        again = GROUPS + (("product", "Group", "Two", "Two", "P"),)
        self.assertEqual(self.product("Group", "Two", "Two", "P", before=again), [-2])

    def test_31st_instance(self):
        before = many_classes(1) + many_instances(29) + [("product", "C0", "S0", "S1", "P")]
        self.assertEqual(self.product("C0", "S0", "P", "New", before=before), [-8])
        self.assertEqual(last(*before), [1])

    def test_size(self):
        sizes = many_classes(1) + [("instance", f"(instance C0 S{n} {n} ())") for n in range(1, 7)]
        sizes.append(("product", "C0", "S6", "S6", "Most"))
        sizes.append(("product", "C0", "S6", "S3", "Half"))
        self.assertEqual(ask(*sizes)[-2:], [[36], [18]])
        self.assertEqual(self.product("C0", "Most", "S1", "New", before=sizes), [36])
        self.assertEqual(self.product("C0", "Half", "S2", "New", before=sizes), [36])
        self.assertEqual(self.product("C0", "Most", "S2", "New", before=sizes), [-6])
        self.assertEqual(self.product("C0", "S2", "Most", "New", before=sizes), [-6])
        self.assertEqual(self.product("C0", "Half", "S3", "New", before=sizes), [-6])
        self.assertEqual(self.product("C0", "Most", "Most", "New", before=sizes), [-6])
        just_above = sizes + [("product", "C0", "S6", "S2", "Twelve"), ("product", "C0", "Twelve", "S3", "Also")]
        self.assertEqual(last(*just_above), [36])

    def test_size_37_or_a_little_more(self):
        sizes = many_classes(1) + [("instance", f"(instance C0 S{n} {n} ())") for n in range(1, 7)]
        sizes.append(("product", "C0", "S4", "S2", "Eight"))
        self.assertEqual(self.product("C0", "Eight", "S5", "New", before=sizes), [-6])
        self.assertEqual(self.product("C0", "Eight", "S4", "New", before=sizes), [32])

    def test_order(self):
        full = many_classes(1) + [("instance", "(instance C0 Six 6 ())"), ("product", "C0", "Six", "Six", "Most")]
        full += many_instances(28)
        self.assertEqual(last(*full), [30])
        self.assertEqual(self.product("C0", "No", "Most", "most", before=full), [-3])
        self.assertEqual(self.product("C0", "Most", "Most", "most", before=full), [-1])
        self.assertEqual(self.product("C0", "Most", "Most", "Most", before=full), [-2])
        self.assertEqual(self.product("C0", "Most", "Most", "New", before=full), [-8])
        self.assertEqual(self.product("C0", "Most", "Most", "New", before=full[:-1]), [-6])
        self.assertEqual(self.product("C0", "Most", "Most", "Six", before=full[:-1]), [-2])

    def test_refused_product_is_not_there(self):
        before = many_classes(1) + [("instance", "(instance C0 Six 6 ())"), ("product", "C0", "Six", "Six", "Most")]
        calls = before + [("product", "C0", "Most", "Six", "New"), ("tell", "C0", "New")]
        calls += [("instance", "(instance C0 New 1 ())")]
        self.assertEqual(ask(*calls)[3:], [[-6], [-3], [3]])


if __name__ == "__main__":
    unittest.main()
