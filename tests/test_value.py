import unittest

from tests.helper import GROUP, THREE, TWO, ask, last, with_text

HUGE = 10 ** 18
MIXED = (
    ("class", "(class Mixed ((e 0) (f 1) (m 2)) ())"),
    ("instance", "(instance Mixed S 3 ((e 2) (f 1 2 0) (m 0 1 2 2 1 0 1 1 2)))"),
)
E = 2
F = (1, 2, 0)
M = ((0, 1, 2), (2, 1, 0), (1, 1, 2))


def value(chosen, term):
    return last(*MIXED, ("value", chosen, "Mixed", "S", term))


class Values(unittest.TestCase):
    def test_example(self):
        calls = (("class", GROUP), ("instance", TWO), ("value", [1, 1], "Group", "Two", "(mul X (inv Y))"))
        self.assertEqual(last(*calls), [0])

    def test_variables(self):
        for a in range(3):
            self.assertEqual(value([a], "X"), [a])
            self.assertEqual(value([a], " \nLong'Name9\n"), [a])

    def test_operations(self):
        self.assertEqual(value([], "e"), [E])
        for a in range(3):
            self.assertEqual(value([a], "(f X)"), [F[a]])
            for b in range(3):
                self.assertEqual(value([a, b], "(m X Y)"), [M[a][b]])

    def test_nested(self):
        for a in range(3):
            for b in range(3):
                self.assertEqual(value([a, b], "(m (f A) (m e (f B)))"), [M[F[a]][M[E][F[b]]]])
                self.assertEqual(value([a, b], "(f (m (m A B) (f e)))"), [F[M[M[a][b]][F[E]]]])

    def test_names_of_several_bytes(self):
        calls = (
            ("class", "(class C ((zero' 0) (next1 1) (ze 0)) ((law (next1 ze) (next1 zero'))))"),
            ("instance", "(instance C S 3 ((zero' 2) (next1 1 2 2) (ze 1)))"),
        )
        for term, number in (("zero'", 2), ("ze", 1), ("(next1 ze)", 2), ("(next1 (next1 zero'))", 2)):
            self.assertEqual(ask(*calls, ("value", [], "C", "S", term)), [[1], [1], [number]], term)
        fault = ("fault", "(instance C T 3 ((zero' 0) (next1 1 2 2) (ze 1)))")
        self.assertEqual(last(*calls, fault), with_text(7, "(law)"))

    def test_without_variables(self):
        self.assertEqual(value([], "(m e (f e))"), [M[E][F[E]]])

    def test_variables_that_stand_more_than_once(self):
        for a in range(3):
            self.assertEqual(value([a], "(m A A)"), [M[a][a]])
            for b in range(3):
                self.assertEqual(value([a, b], "(m B (m A B))"), [M[a][M[b][a]]])
                self.assertEqual(value([a, b], "(m (m Z A) (m A Z))"), [M[M[a][b]][M[b][a]]])

    def test_more_than_three_variables(self):
        self.assertEqual(value([0, 1, 2, 1], "(m (m D C) (m B A))"), [M[M[0][1]][M[2][1]]])

    def test_40_deep(self):
        for start in range(3):
            self.assertEqual(value([start], "(f " * 40 + "A" + ")" * 40), [(start + 40) % 3])

    def test_many_variables(self):
        # Nested by halves: about three hundred variables in one text.
        def wide(names):
            if len(names) == 1:
                return names[0]
            return f"(m {wide(names[:len(names) // 2])} {wide(names[len(names) // 2:])})"

        def worked_out(numbers):
            if len(numbers) == 1:
                return numbers[0]
            return M[worked_out(numbers[:len(numbers) // 2])][worked_out(numbers[len(numbers) // 2:])]

        chosen = [(k * k + k // 5) % 3 for k in range(300)]
        self.assertEqual(value(chosen, wide([f"V{k}" for k in range(300)])), [worked_out(chosen)])
        self.assertEqual(value(chosen[1:], wide([f"V{k}" for k in range(300)])), [-5])

    def test_in_a_product(self):
        calls = (("class", GROUP), ("instance", TWO), ("instance", THREE), ("product", "Group", "Two", "Three", "Six"))
        for a in range(6):
            for b in range(6):
                pair = (a // 3 + b // 3) % 2 * 3 + (a % 3 + b % 3) % 3
                self.assertEqual(last(*calls, ("value", [a, b], "Group", "Six", "(mul A B)")), [pair])

    def test_changes_nothing(self):
        asked = ("value", [1], "Mixed", "S", "(f X)")
        told = ("tell", "Mixed", "S")
        text = "(instance Mixed S 3 ((e 2) (f 1 2 0) (m 0 1 2 2 1 0 1 1 2)))"
        self.assertEqual(ask(*MIXED, asked, asked, told)[2:], [[2], [2], with_text(3, text)])


class Refusals(unittest.TestCase):
    def test_no_such_class_or_instance(self):
        for class_name, name in (("No", "S"), ("Mixed", "No"), ("", "S"), ("Mixed", ""), ("Mixed ", "S"), ("S", "Mixed"),
                                 ("mixed", "S"), ("Mixed", "S'"), ("M" * 3000, "S"), ("Mixed", [255])):
            self.assertEqual(last(*MIXED, ("value", [], class_name, name, "e")), [-3], (class_name, name))

    def test_instance_of_another_class(self):
        calls = MIXED + (("class", "(class C () ())"), ("instance", "(instance C T 1 ())"))
        self.assertEqual(last(*calls, ("value", [0], "C", "S", "X")), [-3])
        self.assertEqual(last(*calls, ("value", [0], "Mixed", "T", "X")), [-3])
        self.assertEqual(last(*calls, ("value", [0], "C", "T", "X")), [0])

    def test_no_term(self):
        for term in ("", " ", "e e", "(f A", "f A)", "(f A))", '"', "\tA", "(" * 41 + ")" * 41, "()", "(e)", "(f)",
                     "(f A A)", "(m A)", "(m A A A)", "f", "m", "g", "(g A)", "(A)", "0", "((f) A)", "(f ())", "(E A)"):
            self.assertEqual(value([], term), [-1], term)
            self.assertEqual(value([0], term), [-1], term)
        self.assertEqual(value([0], "(f " * 41 + "A" + ")" * 41), [-1])
        self.assertEqual(value([0], "A" * 3001), [-1])
        self.assertEqual(value([0], "A" * 3000), [0])
        self.assertEqual(value([0], [200] * 10000), [-1])

    def test_no_element(self):
        for number in (-1, 3, 4, 36, -3, HUGE, -HUGE):
            self.assertEqual(value([number], "X"), [-5], number)
            self.assertEqual(value([0, number], "(m X Y)"), [-5], number)
            self.assertEqual(value([number, 0], "(m X Y)"), [-5], number)

    def test_too_few_or_too_many(self):
        self.assertEqual(value([], "X"), [-5])
        self.assertEqual(value([0, 0], "X"), [-5])
        self.assertEqual(value([0], "e"), [-5])
        self.assertEqual(value([0], "(m X Y)"), [-5])
        self.assertEqual(value([0, 0], "(m X X)"), [-5])
        self.assertEqual(value([0] * 1000, "(m X Y)"), [-5])

    def test_order(self):
        self.assertEqual(last(*MIXED, ("value", [9], "Mixed", "No", "(")), [-3])
        self.assertEqual(value([9], "("), [-1])
        self.assertEqual(value([], "(g X)"), [-1])


if __name__ == "__main__":
    unittest.main()
