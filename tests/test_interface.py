import builtins
import contextlib
import io
import unittest
from unittest import mock

from lawclasses.table import answers
from tests.helper import BAD, FOUR, GROUP, THREE, TWO, ask, laid_out, taken_apart, with_text

EXAMPLES = (
    ("class", GROUP),
    ("instance", TWO),
    ("fault", BAD),
    ("value", [1, 1], "Group", "Two", "(mul X (inv Y))"),
    ("product", "Group", "Two", "Two", "Four"),
    ("tell", "Group", "Four"),
)
EXAMPLE_ANSWERS = [[1], [1], with_text(7, "(inverse (A 1))"), [0], [4], with_text(4, FOUR)]


class Unchanging(list):
    """A list that doesn't let itself be changed, not for a while either."""

    def refuse(self, *rows, **named):
        raise AssertionError("what was handed in is changed")

    append = clear = extend = insert = pop = remove = reverse = sort = refuse
    __setitem__ = __delitem__ = __iadd__ = __imul__ = refuse


def hundred_calls():
    calls = list(EXAMPLES) + [("instance", THREE)]
    while len(calls) < 100:
        calls.append(
            (
                ("value", [len(calls) % 3], "Group", "Three", "(inv A)"),
                ("class", f"(class C{len(calls)} () ())"),
                ("fault", TWO),
                ("instance", f"(instance C{len(calls) - 2} S 2 ())"),
                ("product", "Group", "Two", "Two", "Two"),
                ("tell", "No", "Two"),
            )[len(calls) % 6]
        )
    return calls


class Layout(unittest.TestCase):
    def test_examples_in_one_list(self):
        self.assertEqual(ask(*EXAMPLES), EXAMPLE_ANSWERS)

    def test_numbers_as_they_stand(self):
        text = [ord(sign) for sign in "(class C () ())"]
        self.assertEqual(answers([0, 15] + text), [1, 1])
        self.assertEqual(answers([0, 0]), [1, -1])
        self.assertEqual(answers([1, 0]), [1, -1])
        self.assertEqual(answers([2, 0]), [1, 1])
        self.assertEqual(answers([3, 0, 0, 0, 0]), [1, -3])
        self.assertEqual(answers([4, 0, 0, 0, 0]), [1, -3])
        self.assertEqual(answers([8, 0, 0]), [1, -3])
        self.assertEqual(answers([8, 1, 67, 1, 83, 0, 15] + text), [1, -3, 1, 1])
        instance = [ord(sign) for sign in "(instance C S 2 ())"]
        calls = [0, 15] + text + [1, 19] + instance + [3, 1, 1, 1, 67, 1, 83, 1, 88] + [4, 1, 67, 1, 83, 1, 83, 1, 84]
        told = [ord(sign) for sign in "(instance C T 4 ())"]
        self.assertEqual(answers(calls + [8, 1, 67, 1, 84]), [1, 1, 1, 1, 1, 1, 1, 4, 20, 4] + told)

    def test_one_call(self):
        self.assertEqual(ask(("class", GROUP)), [[1]])
        self.assertEqual(ask(("fault", TWO)), [[3]])

    def test_100_calls(self):
        calls = hundred_calls()
        answered = ask(*calls)
        self.assertEqual(len(answered), 100)
        self.assertEqual(answered[:7], EXAMPLE_ANSWERS + [[3]])
        classes = 1
        instances = 3
        for call, answer in zip(calls[7:], answered[7:]):
            if call[0] == "class":
                classes += 1
                self.assertEqual(answer, [classes])
            elif call[0] == "instance":
                instances += 1
                self.assertEqual(answer, [instances])
            elif call[0] == "value":
                self.assertEqual(answer, [(0, 2, 1)[call[1][0]]])
            else:
                self.assertEqual(answer, [{"fault": 2, "product": -2, "tell": -3}[call[0]]])
        self.assertGreater(classes, 10)
        self.assertGreater(instances, 10)

    def test_rows_of_the_greatest_length(self):
        calls = (("value", [10 ** 18] * 1000, "C" * 3000, "S" * 3000, " " * 9000), ("class", "(class C () ())"))
        self.assertEqual(ask(*calls), [[-3], [1]])
        self.assertEqual(ask(("class", "(" * 10000), ("class", "(class C () ())")), [[-1], [1]])


class Refusals(unittest.TestCase):
    def test_object_is_as_it_was(self):
        refused = (
            ("class", "(class New () ()"),
            ("class", GROUP),
            ("class", "(class New ((f 0) (f 0)) ())"),
            ("class", "(class New ((m 2)) ((l (m A B) (m D E))))"),
            ("instance", "(instance Group New 2 ())"),
            ("instance", "(instance No New 1 ())"),
            ("instance", TWO),
            ("instance", BAD),
            ("instance", "(instance Group New 9 ())"),
            ("value", [7], "Group", "Two", "X"),
            ("value", [], "Group", "Two", "("),
            ("product", "Group", "Two", "No", "New"),
            ("product", "Group", "Two", "Two", "new"),
            ("product", "Group", "Two", "Two", "Four"),
            ("tell", "Group", "New"),
        )
        behind = (
            ("tell", "Group", "Two"),
            ("tell", "Group", "Four"),
            ("tell", "Group", "New"),
            ("class", "(class New () ())"),
            ("instance", "(instance Group New 1 ((e 0) (inv 0) (mul 0)))"),
            ("fault", BAD),
        )
        expected = ask(*EXAMPLES, *behind)[len(EXAMPLES):]
        self.assertEqual([answer[0] for answer in expected], [2, 4, -3, 2, 3, 7])
        for call in refused:
            answered = ask(*EXAMPLES, call, *behind)[len(EXAMPLES):]
            self.assertEqual(len(answered[0]), 1, call)
            self.assertLess(answered[0][0], 0, call)
            self.assertEqual(answered[1:], expected, call)
        answered = ask(*EXAMPLES, *refused, *behind)
        self.assertEqual(answered[len(EXAMPLES) + len(refused):], expected)


class NothingElse(unittest.TestCase):
    def test_what_is_handed_in_is_not_changed(self):
        for calls in (EXAMPLES, hundred_calls()):
            numbers = laid_out(calls)
            handed = Unchanging(numbers)
            self.assertEqual(answers(handed), answers(numbers))
            self.assertEqual(list(handed), laid_out(calls))
            self.assertEqual(numbers, laid_out(calls))

    def test_asked_twice(self):
        numbers = laid_out(hundred_calls())
        once = answers(numbers)
        self.assertEqual(answers([0, 0]), [1, -1])
        self.assertEqual(answers(numbers), once)

    def test_what_is_given_back_is_new(self):
        numbers = laid_out(EXAMPLES)
        once = answers(numbers)
        once.clear()
        self.assertEqual(taken_apart(answers(numbers)), EXAMPLE_ANSWERS)

    def test_prints_reads_and_imports_nothing(self):
        def refuse(*rows, **named):
            raise AssertionError("something is read or imported")

        numbers = laid_out(hundred_calls())
        printed = io.StringIO()
        with contextlib.redirect_stdout(printed), contextlib.redirect_stderr(printed):
            with mock.patch.object(builtins, "open", refuse), mock.patch.object(builtins, "input", refuse):
                with mock.patch.object(builtins, "__import__", refuse):
                    answers(numbers)
        self.assertEqual(printed.getvalue(), "")

    def test_whole_numbers_and_no_others(self):
        given = answers(laid_out(hundred_calls()))
        self.assertIs(type(given), list)
        self.assertEqual({type(number) for number in given}, {int})


if __name__ == "__main__":
    unittest.main()
