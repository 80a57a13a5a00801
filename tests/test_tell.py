import unittest

from tests.helper import FOUR, GROUP, THREE, TWO, ask, last, many_classes, with_text

GROUPS = (("class", GROUP), ("instance", TWO), ("instance", THREE))


class Tells(unittest.TestCase):
    def test_example(self):
        calls = GROUPS + (("product", "Group", "Two", "Two", "Four"), ("tell", "Group", "Four"))
        self.assertEqual(last(*calls), with_text(4, FOUR))

    def test_as_it_was_told(self):
        self.assertEqual(last(*GROUPS, ("tell", "Group", "Two")), with_text(2, TWO))
        self.assertEqual(last(*GROUPS, ("tell", "Group", "Three")), with_text(3, THREE))

    def test_blanks_are_as_in_a_written_tree(self):
        text = "\n ( instance  Group\nTwo 2((e 0)(inv 0  1 )( mul 0 1 1\n\n0)) )  "
        self.assertEqual(last(("class", GROUP), ("instance", text), ("tell", "Group", "Two")), with_text(2, TWO))

    def test_class_without_operations(self):
        calls = many_classes(1) + [("instance", "(instance  C0 S 6( ))"), ("tell", "C0", "S")]
        self.assertEqual(last(*calls), with_text(6, "(instance C0 S 6 ())"))

    def test_more_than_6(self):
        calls = many_classes(1) + [("instance", "(instance C0 S 6 ())"), ("product", "C0", "S", "S", "P")]
        self.assertEqual(last(*calls, ("tell", "C0", "P")), with_text(36, "(instance C0 P 36 ())"))
        six = GROUPS + (("product", "Group", "Two", "Three", "Six"), ("product", "Group", "Six", "Two", "Twelve"))
        values = [((a // 6 + b // 6) % 2, (a // 2 % 3 + b // 2 % 3) % 3, (a + b) % 2) for a in range(12) for b in range(12)]
        product = " ".join(str(x * 6 + y * 2 + z) for x, y, z in values)
        inverse = " ".join(str(a // 6 * 6 + -(a // 2) % 3 * 2 + a % 2) for a in range(12))
        text = f"(instance Group Twelve 12 ((e 0) (inv {inverse}) (mul {product})))"
        self.assertEqual(last(*six, ("tell", "Group", "Twelve")), with_text(12, text))

    def test_parts_and_quotients(self):
        # Numbers are told anew: 1, 3 and 5 stand as 0, 1 and 2; 0, 1 and 2 for what is one with 0, 2 and 3.
        calls = (
            ("class", "(class C ((e 0) (f 1) (m 2)) ())"),
            ("instance", f"(instance C S 6 ((e 5) (f 0 3 0 5 4 1) (m {' '.join(['1'] * 35)} 3)))"),
            ("part", [], "C", "S", "P"),
            ("tell", "C", "P"),
            ("instance", "(instance C T 4 ((e 3) (f 2 2 3 0) (m 0 1 2 3 1 0 2 3 3 3 2 2 1 0 2 2)))"),
            ("quotient", [1, 0], "C", "T", "Q"),
            ("tell", "C", "Q"),
        )
        answered = ask(*calls)
        part = with_text(3, "(instance C P 3 ((e 2) (f 1 2 0) (m 0 0 0 0 0 0 0 0 1)))")
        self.assertEqual(answered[2:4], [[3, 1, 3, 5], part])
        quotient = with_text(3, "(instance C Q 3 ((e 2) (f 1 2 0) (m 0 1 2 2 1 1 0 1 1)))")
        self.assertEqual(answered[4][0], 3)
        self.assertEqual(answered[5:], [[3, 0, 0, 2, 3], quotient])

    def test_parts_and_quotients_of_more_than_6(self):
        values = " ".join(str((a + b) % 6) for a in range(6) for b in range(6))
        calls = (
            ("class", "(class C ((e 0) (m 2)) ())"),
            ("instance", f"(instance C S 6 ((e 0) (m {values})))"),
            ("product", "C", "S", "S", "Most"),
            ("part", [2, 6], "C", "Most", "P"),
            ("tell", "C", "P"),
            ("quotient", [0, 3], "C", "Most", "Q"),
            ("tell", "C", "Q"),
        )
        answered = ask(*calls)[3:]
        part = " ".join(str((a // 3 + b // 3) % 6 * 3 + (a + b) % 3) for a in range(18) for b in range(18))
        self.assertEqual(answered[0], [18] + [a for a in range(36) if a % 2 == 0])
        self.assertEqual(answered[1], with_text(18, f"(instance C P 18 ((e 0) (m {part})))"))
        self.assertEqual(answered[2], [18] + [a // 6 * 6 + a % 3 for a in range(36)])
        self.assertEqual(answered[3], with_text(18, f"(instance C Q 18 ((e 0) (m {part})))"))

    def test_largest_answer(self):
        operations = " ".join(f"(f{k} 2)" for k in range(6))
        rows = " ".join(f"(f{k} {' '.join(['5'] * 36)})" for k in range(6))
        calls = (
            ("class", f"(class C ({operations}) ())"),
            ("instance", f"(instance C S 6 ({rows}))"),
            ("product", "C", "S", "S", "P"),
            ("tell", "C", "P"),
        )
        told = " ".join(f"(f{k} {' '.join(['35'] * 1296)})" for k in range(6))
        self.assertEqual(last(*calls), with_text(36, f"(instance C P 36 ({told}))"))

    def test_changes_nothing(self):
        told = ("tell", "Group", "Two")
        self.assertEqual(ask(*GROUPS, told, told)[3:], [with_text(2, TWO)] * 2)

    def test_what_is_told_may_be_taken(self):
        answered = last(*GROUPS, ("product", "Group", "Two", "Three", "Six"), ("tell", "Group", "Six"))
        self.assertEqual(last(("class", GROUP), ("instance", answered[1:])), [1])
        self.assertEqual(last(*GROUPS, ("fault", answered[1:])), [0])


class Refusals(unittest.TestCase):
    def test_no_such_class_or_instance(self):
        for rows in (("No", "Two"), ("Group", "No"), ("", ""), ("Group", ""), ("", "Two"), ("Two", "Group"),
                     ("group", "Two"), ("Group", "two"), ("Group", [84, 119, 111, 0]), ("G" * 3000, "T" * 3000)):
            self.assertEqual(last(*GROUPS, ("tell",) + rows), [-3], rows)

    def test_instance_of_another_class(self):
        self.assertEqual(last(*GROUPS, ("class", "(class C () ())"), ("tell", "C", "Two")), [-3])


if __name__ == "__main__":
    unittest.main()
