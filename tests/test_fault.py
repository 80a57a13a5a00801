import itertools
import unittest

from tests.helper import BAD, GROUP, TWO, ask, last, many_classes, many_instances, with_text


class Answers(unittest.TestCase):
    def test_example(self):
        self.assertEqual(last(("class", GROUP), ("instance", TWO), ("fault", BAD)), with_text(7, "(inverse (A 1))"))

    def test_would_be_taken(self):
        self.assertEqual(last(("class", GROUP), ("fault", TWO)), [0])

    def test_each_number(self):
        full = [("class", GROUP)] + many_classes(1) + many_instances(30)
        self.assertEqual(last(("fault", "(")), [1])
        self.assertEqual(last(("fault", [200] * 10000)), [1])
        self.assertEqual(last(("class", GROUP), ("instance", TWO), ("fault", TWO)), [2])
        self.assertEqual(last(("fault", TWO)), [3])
        self.assertEqual(last(("class", GROUP), ("fault", "(instance Group S 2 ())")), [4])
        self.assertEqual(last(*full, ("fault", TWO)), [8])

    def test_changes_nothing(self):
        calls = (("class", GROUP), ("fault", TWO), ("fault", BAD), ("fault", TWO), ("tell", "Group", "Two"))
        self.assertEqual([answer[0] for answer in ask(*calls)], [1, 0, 7, 0, -3])
        self.assertEqual(last(*calls, ("instance", TWO)), [1])


class FirstFailure(unittest.TestCase):
    def fault(self, operations, laws, instance):
        return last(("class", f"(class C ({operations}) ({laws}))"), ("fault", f"(instance C S {instance})"))

    def test_law_without_variables(self):
        self.assertEqual(self.fault("(a 0) (b 0)", "(same a b)", "2 ((a 0) (b 1))"), with_text(7, "(same)"))
        self.assertEqual(self.fault("(a 0) (b 0)", "(same a b)", "2 ((a 1) (b 1))"), [0])

    def test_law_of_one_variable(self):
        self.assertEqual(self.fault("(f 1)", "(l (f (f X)) X)", "5 ((f 1 0 2 4 4))"), with_text(7, "(l (X 3))"))

    def test_law_of_two_variables(self):
        rows = "3 ((m 0 1 2 1 1 2 2 0 2))"
        self.assertEqual(self.fault("(m 2)", "(comm (m X Y) (m Y X))", rows), with_text(7, "(comm (X 1) (Y 2))"))

    def test_law_of_three_variables(self):
        rows = "3 ((m 0 0 0 0 0 0 0 1 0))"
        text = "(assoc (m A (m B C)) (m (m A B) C))"
        self.assertEqual(self.fault("(m 2)", text, rows), with_text(7, "(assoc (A 2) (B 2) (C 1))"))

    def test_variables_in_the_order_in_which_they_stand_first(self):
        rows = "2 ((m 0 0 1 1))"
        self.assertEqual(self.fault("(m 2)", "(l (m Z A) (m A Z))", rows), with_text(7, "(l (Z 0) (A 1))"))
        self.assertEqual(self.fault("(m 2)", "(l Q (m B A))", rows), with_text(7, "(l (Q 0) (B 1) (A 0))"))
        self.assertEqual(self.fault("(m 2)", "(l (m A A) (m B A))", rows), with_text(7, "(l (A 0) (B 1))"))

    def test_class_without_operations(self):
        self.assertEqual(self.fault("", "(one A B)", "2 ()"), with_text(7, "(one (A 0) (B 1))"))
        self.assertEqual(self.fault("", "(one A B)", "1 ()"), [0])

    def test_first_law_in_order(self):
        rows = "2 ((f 1 1) (g 0 0))"
        self.assertEqual(self.fault("(f 1) (g 1)", "(g (g A) A) (f (f A) A)", rows), with_text(7, "(g (A 1))"))
        self.assertEqual(self.fault("(f 1) (g 1)", "(f (f A) A) (g (g A) A)", rows), with_text(7, "(f (A 0))"))
        self.assertEqual(self.fault("(f 1) (g 1)", "(ok A A) (x (g A) (f A))", rows), with_text(7, "(x (A 0))"))

    def test_names_as_they_stand(self):
        text = self.fault("(f 1)", "(law'9Z (f Var'1) Var'1)", "2 ((f 0 0))")
        self.assertEqual(text, with_text(7, "(law'9Z (Var'1 1))"))

    def test_last_row_of_the_largest(self):
        rows = "6 ((m " + " ".join(["0"] * 35 + ["1"]) + "))"
        self.assertEqual(self.fault("(m 2)", "(l (m A B) (m C C))", rows), with_text(7, "(l (A 0) (B 0) (C 5))"))
        self.assertEqual(self.fault("(m 2)", "(l (m A (m B C)) (m A A))", rows), with_text(7, "(l (A 5) (B 0) (C 0))"))


# The same laws, told once more as plain Python.
BINARY_LAWS = (
    ("comm", "(m A B)", "(m B A)", "AB", lambda m, a, b: m[a][b] == m[b][a]),
    ("idem", "(m A A)", "A", "A", lambda m, a: m[a][a] == a),
    ("left", "(m B A)", "B", "BA", lambda m, b, a: m[b][a] == b),
    ("assoc", "(m A (m B C))", "(m (m A B) C)", "ABC", lambda m, a, b, c: m[a][m[b][c]] == m[m[a][b]][c]),
    ("medial", "(m C (m A C))", "(m (m B C) A)", "CAB", lambda m, c, a, b: m[c][m[a][c]] == m[m[b][c]][a]),
)


def expected(law, size, table):
    for row in itertools.product(range(size), repeat=len(law[3])):
        if not law[4](table, *row):
            return with_text(7, "(" + " ".join([law[0]] + [f"({x} {a})" for x, a in zip(law[3], row)]) + ")")
    return [0]


class AgainstPlainLoops(unittest.TestCase):
    def held_against(self, size, tables):
        for law in BINARY_LAWS:
            calls = [("class", f"(class C ((m 2)) (({law[0]} {law[1]} {law[2]})))")]
            for table in tables:
                calls.append(("fault", f"(instance C S {size} ((m {' '.join(str(v) for row in table for v in row)})))"))
            answered = ask(*calls)[1:]
            self.assertEqual(answered, [expected(law, size, table) for table in tables], law[0])

    def test_all_of_size_2(self):
        flat = itertools.product(range(2), repeat=4)
        self.held_against(2, [[row[:2], row[2:]] for row in flat])

    def test_some_of_sizes_3_to_6(self):
        for size in range(3, 7):
            tables = []
            for k in range(40):
                tables.append([[(a * k + b * (k // 3) + a * b * (k % 4)) % size for b in range(size)] for a in range(size)])
            tables.append([[max(a, b) for b in range(size)] for a in range(size)])
            tables.append([[a for b in range(size)] for a in range(size)])
            tables.append([[b if a < size - 1 else a for b in range(size)] for a in range(size)])
            self.held_against(size, tables)


if __name__ == "__main__":
    unittest.main()
