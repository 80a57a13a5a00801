import unittest

from tests.helper import GROUP, ask, class_answer, last, many_classes

LAW_FORM = "(class C ((e 0) (f 1) (m 2)) ((l {} A)))"


def nested(depth, inside):
    return "(f " * depth + inside + ")" * depth


class Taken(unittest.TestCase):
    def test_example(self):
        self.assertEqual(ask(("class", GROUP)), [[1]])

    def test_how_many(self):
        self.assertEqual(ask(*many_classes(30)), [[k] for k in range(1, 31)])

    def test_blanks_wherever_they_may_stand(self):
        for text in (
            "\n (\nclass\n\nC  ((e\n0)( f 1 )(m  2))((l(f A)(m(f e)A))\n(w A e ) )\n) \n",
            "(class C((e 0))((l e A)))",
            "(class C()())",
            "(class C ( ) ( ))",
            "( class C () () )\n",
        ):
            self.assertEqual(class_answer(text), [1], text)

    def test_names_with_digits_and_quotes(self):
        text = "(class C'1zZ ((a9'Z 0) (zA 1) (a 2)) ((l'' (a X1' (zA a9'Z)) Z)))"
        self.assertEqual(class_answer(text), [1])

    def test_names_like_the_words_themselves(self):
        self.assertEqual(class_answer("(class Class ((class 0) (instance 1)) ((class class (instance A))))"), [1])

    def test_edges_of_the_letters(self):
        self.assertEqual(class_answer("(class A ((a 0) (z 0) (zaz0AZ9' 0)) ())"), [1])
        self.assertEqual(class_answer("(class Z ((a 1)) ((a (a A) (a Z))))"), [1])

    def test_as_many_as_allowed(self):
        operations = " ".join(f"(f{k} {k % 3})" for k in range(6))
        laws = " ".join(f"(l{k} (f2 A (f2 B C)) (f2 C A))" for k in range(8))
        self.assertEqual(class_answer(f"(class C ({operations}) ({laws}))"), [1])

    def test_operation_and_law_of_one_name(self):
        self.assertEqual(class_answer("(class C ((f 1)) ((f (f A) A)))"), [1])

    def test_all_kinds_of_terms(self):
        for term in ("A", "e", "(f A)", "(f e)", "(m A e)", "(m (f A) (m e B))", "(f (m A A))"):
            self.assertEqual(class_answer(LAW_FORM.format(term)), [1], term)

    def test_3000_bytes(self):
        text = "(class C () ())"
        self.assertEqual(class_answer(text + " " * (3000 - len(text))), [1])
        self.assertEqual(class_answer("\n" * (3001 - len(text)) + text), [-1])

    def test_name_of_many_bytes(self):
        start = "(class C () ())"
        self.assertEqual(class_answer("(class C" + "x" * (3000 - len(start)) + " () ())"), [1])
        self.assertEqual(class_answer("(class C" + "x" * (3001 - len(start)) + " () ())"), [-1])

    def test_nested_40_deep(self):
        # A law's sides stand within three parentheses.
        for depth, answer in ((37, [1]), (38, [-1])):
            self.assertEqual(class_answer(f"(class C ((f 1)) ((l {nested(depth, 'A')} A)))"), answer)
            self.assertEqual(class_answer(f"(class C ((f 1)) ((l A {nested(depth, 'A')})))"), answer)


class NotReadable(unittest.TestCase):
    def test_bytes_that_may_not_stand_there(self):
        for byte in (0, 9, 11, 13, 31, 34, 127, 128, 160, 255):
            for text in ("(class C () ())%", "%(class C () ())", "(class% C () ())", "(class C (%) ())"):
                numbers = [byte if sign == "%" else ord(sign) for sign in text]
                self.assertEqual(class_answer(numbers), [-1], (byte, text))

    def test_quote(self):
        self.assertEqual(class_answer('(class "C" () ())'), [-1])

    def test_parentheses_that_do_not_match(self):
        for text in ("(class C () ()", "(class C () ()))", ")(class C () ())(", "(class C ( ())", "(", ")", "())("):
            self.assertEqual(class_answer(text), [-1], text)

    def test_much_deeper_and_much_longer(self):
        self.assertEqual(class_answer("(" * 1500 + ")" * 1500), [-1])
        self.assertEqual(class_answer("(" * 5000 + ")" * 5000), [-1])
        self.assertEqual(class_answer(" " * 10000), [-1])

    def test_no_tree_or_two(self):
        for text in ("", " \n", "(class C () ()) (class D () ())", "(class C () ())x", "x (class C () ())"):
            self.assertEqual(class_answer(text), [-1], text)


class NoClass(unittest.TestCase):
    def refused(self, *texts):
        for text in texts:
            self.assertEqual(class_answer(text), [-1], text)

    def test_wrong_form(self):
        self.refused("class", "()", "(class)", "(class C)", "(class C ())", "(class C () () ())", "((class) C () ())")
        self.refused("(Class C () ())", "(instance C () ())", "(clas C () ())", "(class C e ())", "(class C () e)")
        self.refused("(class (C) () ())", "(class C () () x)")

    def test_wrong_names(self):
        for name in ("c", "1", "'C", "C-", "C_", "C#", "_C", "()", "@", "["):
            self.refused(f"(class {name} () ())")
        for name in ("F", "1", "'f", "f-", "f.g", "_", "()", "(f)", "`", "{"):
            self.refused(f"(class C (({name} 0)) ())", f"(class C () (({name} A A)))")

    def test_bytes_beside_letters_and_digits(self):
        for sign in "/:@[`{&":
            self.refused(f"(class C{sign} () ())", f"(class C ((f{sign} 0)) ())", f"(class C () ((l A{sign} A)))")

    def test_wrong_numbers_of_arguments(self):
        for numeral in ("00", "01", "02", "3", "03", "10", "12", "000", "0000", "-1", "+1", "x", "1x", "()", "(1)"):
            self.refused(f"(class C ((f {numeral})) ())")

    def test_wrong_operations(self):
        self.refused("(class C (f) ())", "(class C (()) ())", "(class C ((f)) ())", "(class C ((f 1 1)) ())")
        self.refused("(class C (f 1) ())", "(class C ((e 0) f) ())")

    def test_wrong_laws(self):
        self.refused("(class C () (l))", "(class C () (()))", "(class C () ((l)))", "(class C () ((l A)))")
        self.refused("(class C () ((l A A A)))", "(class C () (l A A))", "(class C () ((l A A) x))")

    def test_wrong_terms(self):
        wrong = ("f", "m", "g", "(e)", "(e A)", "(f)", "(f A A)", "(m)", "(m A)", "(m A A A)", "(g A)", "()", "(())")
        wrong += ("((f) A)", "((f A))", "(A)", "(A A)", "(A e)", "0", "(f 0)", "(f (e))", "(m A (f))", "(m (g A) A)")
        wrong += ("(e ())", "(f ())", "_", "(F A)", "((f A) A)")
        for term in wrong:
            self.refused(LAW_FORM.format(term), f"(class C ((e 0) (f 1) (m 2)) ((k A A) (l A {term})))")

    def test_no_class_beats_all_else(self):
        operations = " ".join(f"(f{k} 0)" for k in range(7))
        self.refused(f"(class C ({operations}) ((l A (f0))))")
        self.refused("(class C ((f 1) (f 1)) ((l A (g A))))")
        self.refused("(class C ((f 2)) ((l (f (f A B) (f D E)) g)))")
        thirty = many_classes(30)
        self.assertEqual(class_answer("(class C0 () (", *thirty), [-1])
        self.assertEqual(class_answer("(class c () ())", *thirty), [-1])


class TooMany(unittest.TestCase):
    def test_7_operations(self):
        self.assertEqual(class_answer("(class C (" + "".join(f"(f{k} 0)" for k in range(7)) + ") ())"), [-8])

    def test_9_laws(self):
        self.assertEqual(class_answer("(class C () (" + "".join(f"(l{k} A A)" for k in range(9)) + "))"), [-8])

    def test_4_variables(self):
        self.assertEqual(class_answer("(class C ((m 2)) ((l (m A B) (m D E))))"), [-8])
        self.assertEqual(class_answer("(class C ((m 2)) ((l (m (m A B) (m D E)) A)))"), [-8])
        self.assertEqual(class_answer("(class C ((m 2)) ((k A A) (l A (m (m A B) (m D E)))))"), [-8])
        self.assertEqual(class_answer("(class C ((m 2)) ((l (m (m A B) (m D A)) (m (m D D) B))))"), [1])
        # Each law has variables of its own.
        self.assertEqual(class_answer("(class C ((m 2)) ((k A B) (l D E)))"), [1])

    def test_31st_class(self):
        self.assertEqual(ask(*many_classes(32))[-3:], [[30], [-8], [-8]])

    def test_too_many_beats_a_name_twice(self):
        self.assertEqual(class_answer("(class C (" + "(f 0)" * 7 + ") ())"), [-8])
        self.assertEqual(class_answer("(class C () (" + "(l A A)" * 9 + "))"), [-8])
        self.assertEqual(class_answer("(class C ((m 2) (m 2)) ((l (m A B) (m D E))))"), [-8])
        self.assertEqual(class_answer("(class C0 () ())", *many_classes(30)), [-8])
        self.assertEqual(class_answer("(class D ((f 0) (f 0)) ())", *many_classes(30)), [-8])
        seven = "".join(f"(f{k} 0)" for k in range(7))
        self.assertEqual(class_answer(f"(class C0 ({seven}) ())", *many_classes(1)), [-8])


class NameTwice(unittest.TestCase):
    def test_class(self):
        self.assertEqual(ask(("class", GROUP), ("class", GROUP), ("class", "(class Group () ())")), [[1], [-2], [-2]])
        self.assertEqual(class_answer("(class C () ())", ("class", "(class C' () ())")), [2])

    def test_operations_and_laws(self):
        for text in (
            "(class C ((f 0) (f 0)) ())",
            "(class C ((f 0) (g 1) (f 2)) ())",
            "(class C () ((l A A) (l A A)))",
            "(class C () ((l A A) (k A A) (l A B)))",
        ):
            self.assertEqual(class_answer(text), [-2], text)

    def test_first_of_two_operations_is_meant(self):
        for operations, term, answer in (
            ("(f 1) (f 0)", "(f A)", [-2]),
            ("(f 1) (f 0)", "f", [-1]),
            ("(f 0) (f 1)", "f", [-2]),
            ("(f 0) (f 1)", "(f A)", [-1]),
            ("(f 2) (f 1)", "(f A A)", [-2]),
            ("(f 2) (f 1)", "(f A)", [-1]),
        ):
            self.assertEqual(class_answer(f"(class C ({operations}) ((l {term} A)))"), answer, (operations, term))

    def test_refused_class_is_not_there(self):
        self.assertEqual(
            ask(
                ("class", "(class C ((f 0) (f 0)) ())"),
                ("instance", "(instance C S 1 ())"),
                ("class", "(class C () ())"),
                ("class", "(class C ((f 0)) ())"),
                ("instance", "(instance C S 1 ())"),
            ),
            [[-2], [-3], [1], [-2], [1]],
        )

    def test_counted_anew_after_refusal(self):
        self.assertEqual(last(("class", "x"), ("class", GROUP), ("class", GROUP), ("class", "(class C () ())")), [2])


if __name__ == "__main__":
    unittest.main()
