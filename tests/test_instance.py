import unittest

from tests.helper import FOUR, GROUP, THREE, TWO, ask, last, many_classes, many_instances

OPS = "(class Ops ((e 0) (f 1) (m 2)) ())"


def ops_instance(size, rows, name="S"):
    return f"(instance Ops {name} {size} ({rows}))"


def full_rows(size, value=0):
    def repeated(count):
        return " ".join([str(value)] * count)

    return f"(e {value}) (f {repeated(size)}) (m {repeated(size * size)})"


def answer(text, *before):
    """What instance answers, where fault has to say the same and to change nothing."""
    looked = ask(*before, ("fault", text), ("instance", text))
    taken = looked[-1]
    assert looked[-2][0] == (0 if taken[0] > 0 else -taken[0]), (text, looked[-2:])
    return taken


class Taken(unittest.TestCase):
    def test_examples(self):
        self.assertEqual(answer(TWO, ("class", GROUP)), [1])
        self.assertEqual(ask(("class", GROUP), ("instance", TWO), ("instance", THREE), ("instance", FOUR))[1:],
                         [[1], [2], [3]])

    def test_sizes_1_to_6(self):
        for size in range(1, 7):
            self.assertEqual(answer(ops_instance(size, full_rows(size, size - 1)), ("class", OPS)), [1])

    def test_thirty(self):
        self.assertEqual(ask(("class", "(class C0 () ())"), *many_instances(30))[1:], [[k] for k in range(1, 31)])

    def test_counted_over_all_classes(self):
        calls = many_classes(3) + many_instances(2, "C0") + many_instances(2, "C2")
        self.assertEqual(ask(*calls)[3:], [[1], [2], [3], [4]])

    def test_blanks(self):
        text = "\n(instance\nOps S'1 2((e 1)( f 0\n1 )(m 0 0  1 1)))\n"
        self.assertEqual(answer(text, ("class", OPS)), [1])

    def test_3000_bytes(self):
        text = "(instance C0 S 1 ())"
        self.assertEqual(answer(text + " " * (3000 - len(text)), *many_classes(1)), [1])
        self.assertEqual(answer(text + " " * (3001 - len(text)), *many_classes(1)), [-1])

    def test_class_without_operations(self):
        for size in range(1, 7):
            self.assertEqual(answer(f"(instance C0 S {size} ())", *many_classes(1)), [1])

    def test_values_stand_in_the_order_of_rows(self):
        self.assertEqual(
            last(
                ("class", OPS),
                ("instance", ops_instance(3, "(e 2) (f 1 2 0) (m 0 1 2 2 1 0 1 1 2)")),
                ("value", [1, 2], "Ops", "S", "(m A B)"),
            ),
            [0],
        )


class NoInstance(unittest.TestCase):
    def refused(self, *texts):
        for text in texts:
            self.assertEqual(answer(text, ("class", OPS), ("class", "(class C0 () ())")), [-1], text)

    def test_not_readable_or_not_one_tree(self):
        self.refused("", " ", "(instance C0 S 1 ()", "(instance C0 S 1 ()))", '(instance C0 "S" 1 ())')
        self.refused("(instance C0 S 1 ()) (instance C0 T 1 ())", "(instance C0 S\t1 ())", "(instance C0 S 1 ())x")
        self.refused("(instance C0 S 1 " + "(" * 40 + ")" * 40 + ")", "(instance C0 S 1 " + "(" * 39 + ")" * 39 + ")")

    def test_wrong_form(self):
        self.refused("instance", "()", "(instance)", "(instance C0 S 1)", "(instance C0 S ())", "(instance C0 1 ())")
        self.refused("(instance C0 S 1 () ())", "(class C0 S 1 ())", "(Instance C0 S 1 ())", "((instance) C0 S 1 ())")
        self.refused("(instance C0 S 1 e)", "(instance C0 S (1) ())", "(instance C0 S () ())")

    def test_wrong_sizes(self):
        for size in ("0", "7", "06", "01", "00", "8", "10", "16", "66", "100", "0006", "-1", "+1", "x", "1x"):
            self.refused(f"(instance C0 S {size} ())")

    def test_wrong_names(self):
        for name in ("c", "1", "'", "C-", "_C", "()", "(C)", "C:"):
            self.refused(f"(instance {name} S 1 ())", f"(instance C0 {name} 1 ())")
        for name in ("E", "1", "'", "e-", "_", "()", "(e)", "e:"):
            self.refused(f"(instance Ops S 1 (({name} 0) (f 0) (m 0)))")

    def test_wrong_values(self):
        for value in ("0000", "1000", "1234", "00", "01", "007", "-1", "x", "()", "(0)", "E", "1'"):
            self.refused(f"(instance Ops S 1 ((e {value}) (f 0) (m 0)))", f"(instance Ops S 1 ((e 0) (f 0) (m {value})))")

    def test_wrong_rows(self):
        self.refused("(instance Ops S 1 (e 0))", "(instance Ops S 1 (()))", "(instance Ops S 1 (e (f 0) (m 0)))")

    def test_ahead_of_a_class_that_is_not_there(self):
        self.refused("(instance No S 7 ())", "(instance No s 1 ())", "(instance No S 1 ((e 0000)))")


class Refused(unittest.TestCase):
    def test_no_such_class(self):
        self.assertEqual(answer(TWO), [-3])
        self.assertEqual(answer("(instance C S 1 ())", ("class", "(class C' () ())")), [-3])

    def test_31st_instance(self):
        before = many_classes(2) + many_instances(15, "C0") + many_instances(15, "C1")
        self.assertEqual(ask(*before)[-1], [30])
        self.assertEqual(answer("(instance C0 New 1 ())", *before), [-8])

    def test_31st_ahead_of_name_and_values_but_behind_class(self):
        before = [("class", OPS)] + many_classes(1) + many_instances(30)
        self.assertEqual(answer("(instance C0 S0 1 ())", *before), [-8])
        self.assertEqual(answer("(instance C0 New 1 ((e 0)))", *before), [-8])
        self.assertEqual(answer("(instance No S0 1 ())", *before), [-3])
        self.assertEqual(answer("(instance C0 S0 7 ())", *before), [-1])

    def test_name_is_there(self):
        before = many_classes(2) + many_instances(1)
        self.assertEqual(answer("(instance C0 S0 1 ())", *before), [-2])
        self.assertEqual(answer("(instance C0 S0 2 ())", *before), [-2])
        self.assertEqual(answer("(instance C0 S 1 ())", *before), [2])

    def test_same_name_in_another_class(self):
        before = many_classes(2) + many_instances(1)
        self.assertEqual(answer("(instance C1 S0 1 ())", *before), [2])

    def test_name_ahead_of_values_and_laws(self):
        before = (("class", GROUP), ("instance", TWO))
        self.assertEqual(answer("(instance Group Two 2 ())", *before), [-2])
        self.assertEqual(answer("(instance Group Two 2 ((e 0) (inv 0 1) (mul 0 0 0 0)))", *before), [-2])

    def test_name_of_a_product_is_there(self):
        before = (("class", GROUP), ("instance", TWO), ("product", "Group", "Two", "Two", "Four"))
        self.assertEqual(answer(FOUR, *before), [-2])
        self.assertEqual(answer(THREE, *before), [3])


class NotFitting(unittest.TestCase):
    def refused(self, size, *rows):
        for told in rows:
            self.assertEqual(answer(ops_instance(size, told), ("class", OPS)), [-4], told)

    def test_operations_missing_or_too_many(self):
        self.refused(1, "", "(e 0)", "(e 0) (f 0)", "(f 0) (m 0)", "(e 0) (m 0)")
        self.refused(1, "(e 0) (f 0) (m 0) (g 0)", "(e 0) (f 0) (m 0) (m 0)", "(e 0) (e 0) (f 0) (m 0)")

    def test_another_order_or_other_names(self):
        self.refused(1, "(f 0) (e 0) (m 0)", "(e 0) (m 0) (f 0)", "(e 0) (f 0) (n 0)", "(e' 0) (f 0) (m 0)")

    def test_too_few_or_too_many_values(self):
        self.refused(2, "(e) (f 0 0) (m 0 0 0 0)", "(e 0 0) (f 0 0) (m 0 0 0 0)")
        self.refused(2, "(e 0) (f) (m 0 0 0 0)", "(e 0) (f 0) (m 0 0 0 0)", "(e 0) (f 0 0 0) (m 0 0 0 0)")
        self.refused(2, "(e 0) (f 0 0) (m)", "(e 0) (f 0 0) (m 0 0)", "(e 0) (f 0 0) (m 0 0 0)")
        self.refused(2, "(e 0) (f 0 0) (m 0 0 0 0 0)")

    def test_values_that_are_no_element(self):
        self.refused(2, "(e 2) (f 0 0) (m 0 0 0 0)", "(e 999) (f 0 0) (m 0 0 0 0)")
        self.refused(2, "(e 0) (f 0 2) (m 0 0 0 0)", "(e 0) (f 2 0) (m 0 0 0 0)")
        self.refused(2, "(e 0) (f 0 0) (m 0 0 0 2)", "(e 0) (f 0 0) (m 2 0 0 0)", "(e 0) (f 0 0) (m 0 10 0 0)")

    def test_operations_where_the_class_has_none(self):
        self.assertEqual(answer("(instance C0 S 1 ((e 0)))", *many_classes(1)), [-4])
        self.assertEqual(answer("(instance C0 S 1 ((e)))", *many_classes(1)), [-4])

    def test_ahead_of_laws(self):
        self.assertEqual(answer("(instance Group Bad 2 ((e 0) (inv 0 1) (mul 0 1 1 2)))", ("class", GROUP)), [-4])


class LawBroken(unittest.TestCase):
    def test_refused(self):
        for rows in ("(e 0) (inv 0 1) (mul 0 1 1 1)", "(e 1) (inv 0 1) (mul 0 1 1 0)", "(e 0) (inv 1 1) (mul 0 1 1 0)"):
            self.assertEqual(answer(f"(instance Group Bad 2 ({rows}))", ("class", GROUP)), [-7])

    def test_last_law_at_its_last_row(self):
        before = ("class", "(class C ((f 1)) ((one A A) (two (f A) A)))")
        self.assertEqual(answer("(instance C S 6 ((f 0 1 2 3 4 4)))", before), [-7])
        self.assertEqual(answer("(instance C S 6 ((f 0 1 2 3 4 5)))", before), [1])

    def test_refused_instance_is_not_there(self):
        self.assertEqual(
            ask(
                ("class", GROUP),
                ("instance", "(instance Group Two 2 ((e 0) (inv 0 1) (mul 0 1 1 1)))"),
                ("tell", "Group", "Two"),
                ("instance", TWO),
            ),
            [[1], [-7], [-3], [1]],
        )


if __name__ == "__main__":
    unittest.main()
