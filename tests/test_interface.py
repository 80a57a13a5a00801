import builtins
import contextlib
import io
import unittest
from unittest import mock

from lawclasses.table import answers
from tests.helper import BAD, FOUR, GROUP, THREE, TWO, ask, laid_out, taken_apart, with_text

EXAMPLES = (
    ("class", GROUP),
    ("instance", TWO),
    ("fault", BAD),
    ("value", [1, 1], "Group", "Two", "(mul X (inv Y))"),
    ("product", "Group", "Two", "Two", "Four"),
    ("tell", "Group", "Four"),
    ("part", [3], "Group", "Four", "P"),
    ("quotient", [1, 2], "Group", "Four", "Q"),
    ("maps", 9, "Group", "Four", "Two"),
)
EXAMPLE_ANSWERS = [
    [1],
    [1],
    with_text(7, "(inverse (A 1))"),
    [0],
    [4],
    with_text(4, FOUR),
    [2, 0, 3],
    [2, 0, 1, 1, 0],
    [4, 0, 0, 0, 0, 0, 0, 1, 1, 0, 1, 0, 1, 0, 1, 1, 0],
]


class Unchanging(list):
    """A list that doesn't let itself be changed, not for a while either."""

    def refuse(self, *rows, **named):
        raise AssertionError("what was handed in is changed")

    append = clear = extend = insert = pop = remove = reverse = sort = refuse
    __setitem__ = __delitem__ = __iadd__ = __imul__ = refuse


def nine_calls(k, there):
    """One call of each kind, on a class of its own, and what they answer if so many instances are there before."""
    name = f"C{k}"
    text = f"(instance {name} S 4 ((f 1 0 3 3)))"
    calls = [
        ("class", f"(class {name} ((f 1)) ())"),
        ("instance", text),
        ("fault", text),
        ("value", [k % 4], name, "S", "(f (f X))"),
        ("product", name, "S", "S", "P"),
        ("part", [2], name, "S", "R"),
        ("quotient", [2, 3], name, "S", "Q"),
        ("maps", 1, name, "S", "S"),
        ("tell", name, "S"),
    ]
    expected = [[k + 2], [there + 1], [2], [(0, 1, 3, 3)[k % 4]], [16], [2, 2, 3], [3, 0, 1, 2, 2], [6, 0, 1, 2, 3],
                with_text(4, text)]
    if there == 29:
        expected[2] = [8]
        expected[4:7] = [[-8]] * 3
    if there == 30:
        expected[1:] = [[-8], [8]] + [[-3]] * 6
    return calls, expected


def hundred_calls():
    calls = list(EXAMPLES) + [("instance", THREE)]
    expected = EXAMPLE_ANSWERS + [[5]]
    there = 5
    for k in range(10):
        more = nine_calls(k, there)
        calls += more[0]
        expected += more[1]
        there = min(there + 4, 30)
    return calls, expected


class Layout(unittest.TestCase):
    def test_examples_in_one_list(self):
        self.assertEqual(ask(*EXAMPLES), EXAMPLE_ANSWERS)

    def test_numbers_as_they_stand(self):
        text = [ord(sign) for sign in "(class C () ())"]
        self.assertEqual(answers([0, 15] + text), [1, 1])
        self.assertEqual(answers([0, 0]), [1, -1])
        self.assertEqual(answers([1, 0]), [1, -1])
        self.assertEqual(answers([2, 0]), [1, 1])
        self.assertEqual(answers([3, 0, 0, 0, 0]), [1, -3])
        self.assertEqual(answers([4, 0, 0, 0, 0]), [1, -3])
        self.assertEqual(answers([5, 0, 0, 0, 0]), [1, -3])
        self.assertEqual(answers([6, 0, 0, 0, 0]), [1, -3])
        self.assertEqual(answers([7, 0, 0, 0, 0]), [1, -3])
        self.assertEqual(answers([7, 9, 1, 67, 1, 83, 1, 83]), [1, -3])
        self.assertEqual(answers([8, 0, 0]), [1, -3])
        self.assertEqual(answers([8, 1, 67, 1, 83, 0, 15] + text), [1, -3, 1, 1])
        instance = [ord(sign) for sign in "(instance C S 2 ())"]
        calls = [0, 15] + text + [1, 19] + instance + [3, 1, 1, 1, 67, 1, 83, 1, 88] + [4, 1, 67, 1, 83, 1, 83, 1, 84]
        told = [ord(sign) for sign in "(instance C T 4 ())"]
        self.assertEqual(answers(calls + [8, 1, 67, 1, 84]), [1, 1, 1, 1, 1, 1, 1, 4, 20, 4] + told)
        more = [5, 2, 3, 1, 1, 67, 1, 84, 1, 85] + [6, 2, 0, 3, 1, 67, 1, 84, 1, 86] + [7, 3, 1, 67, 1, 83, 1, 83]
        answered = answers(calls + more)
        self.assertEqual(answered[8:], [3, 2, 1, 3] + [5, 3, 0, 1, 2, 0] + [7, 4, 0, 0, 0, 1, 1, 0])

    def test_one_call(self):
        self.assertEqual(ask(("class", GROUP)), [[1]])
        self.assertEqual(ask(("fault", TWO)), [[3]])

    def test_100_calls_of_all_nine_kinds(self):
        calls, expected = hundred_calls()
        self.assertEqual(len(calls), 100)
        self.assertEqual(len({call[0] for call in calls}), 9)
        self.assertEqual(ask(*calls), expected)

    def test_any_order(self):
        calls, expected = hundred_calls()
        kinds = ["tell", "maps", "quotient", "part", "product", "value", "fault", "instance", "class"]
        turned = sorted(calls[:9], key=lambda call: kinds.index(call[0]))
        self.assertEqual(ask(*turned), [[-3]] * 6 + [[3], [-3], [1]])
        self.assertEqual(ask(*turned, *calls[1:])[9:], expected[1:])

    def test_rows_of_the_greatest_length(self):
        calls = (("value", [10 ** 18] * 1000, "C" * 3000, "S" * 3000, " " * 9000), ("class", "(class C () ())"))
        self.assertEqual(ask(*calls), [[-3], [1]])
        for kind in ("part", "quotient"):
            calls = ((kind, [-10 ** 18] * 1000, "C" * 3000, "S" * 3000, "N" * 3000), ("class", "(class C () ())"))
            self.assertEqual(ask(*calls), [[-3], [1]])
        calls = (("maps", -10 ** 18, "C" * 3000, "S" * 3000, "T" * 3000), ("class", "(class C () ())"))
        self.assertEqual(ask(*calls), [[-3], [1]])
        self.assertEqual(ask(("class", "(" * 10000), ("class", "(class C () ())")), [[-1], [1]])


# For each call, each of its refusals; the table is as behind the examples.
REFUSED = (
    (-1, ("class", "(class New () ()")),
    (-8, ("class", "(class New ((m 2)) ((l (m A B) (m D E))))")),
    (-2, ("class", GROUP)),
    (-2, ("class", "(class New ((f 0) (f 0)) ())")),
    (-1, ("instance", "(instance Group New 9 ())")),
    (-3, ("instance", "(instance No New 1 ())")),
    (-2, ("instance", TWO)),
    (-2, ("instance", "(instance Group P 2 ((e 0) (inv 0 1) (mul 0 1 1 0)))")),
    (-4, ("instance", "(instance Group New 2 ())")),
    (-7, ("instance", BAD)),
    (-7, ("instance", "(instance Group New 2 ((e 0) (inv 0 1) (mul 0 1 1 1)))")),
    (-3, ("value", [], "Group", "New", "e")),
    (-1, ("value", [], "Group", "Two", "(")),
    (-5, ("value", [7], "Group", "Two", "X")),
    (-3, ("product", "Group", "Two", "No", "New")),
    (-1, ("product", "Group", "Two", "Two", "new")),
    (-2, ("product", "Group", "Two", "Two", "Four")),
    (-3, ("part", [0], "Group", "No", "New")),
    (-1, ("part", [0], "Group", "Two", "new")),
    (-2, ("part", [0], "Group", "Two", "Four")),
    (-5, ("part", [0, 4], "Group", "Four", "New")),
    (-6, ("part", [], "Bare", "Six", "New")),
    (-6, ("product", "Bare", "Most", "Six", "New")),
    (-3, ("quotient", [], "No", "Two", "New")),
    (-1, ("quotient", [], "Group", "Two", "new")),
    (-2, ("quotient", [], "Group", "Two", "P")),
    (-5, ("quotient", [0, 1, 1], "Group", "Two", "New")),
    (-5, ("quotient", [0, 2], "Group", "Two", "New")),
    (-3, ("maps", 1, "Group", "Two", "No")),
    (-5, ("maps", 101, "Group", "Two", "Two")),
    (-6, ("maps", 1, "Bare", "Six", "Six")),
    (-3, ("tell", "Group", "New")),
)
# Here 30 classes and 30 instances are there.
REFUSED_WHERE_ALL_ARE_THERE = (
    (-8, ("class", "(class New () ())")),
    (-8, ("instance", "(instance Group New 1 ((e 0) (inv 0) (mul 0)))")),
    (-8, ("product", "Group", "Two", "Two", "New")),
    (-8, ("part", [0], "Group", "Two", "New")),
    (-8, ("quotient", [0, 1], "Group", "Two", "New")),
)
BARE = (
    ("class", "(class Bare () ())"),
    ("instance", "(instance Bare Six 6 ())"),
    ("product", "Bare", "Six", "Six", "Most"),
)
# What shows the whole table, and how it goes on.
SHOWN = (
    ("tell", "Group", "Two"),
    ("tell", "Group", "Four"),
    ("tell", "Group", "P"),
    ("tell", "Group", "Q"),
    ("tell", "Group", "New"),
    ("tell", "Group", "Bad"),
    ("tell", "Bare", "Six"),
    ("tell", "Bare", "New"),
    ("fault", BAD),
    ("maps", 100, "Group", "Four", "Q"),
    ("instance", "(instance Group New 1 ((e 0) (inv 0) (mul 0)))"),
    ("part", [1], "Group", "Four", "Part"),
    ("quotient", [1, 2], "Group", "Four", "Quotient"),
    ("product", "Group", "P", "Q", "Product"),
    ("class", "(class New () ())"),
    ("instance", "(instance New New 1 ())"),
    ("tell", "Group", "Product"),
)


class Refusals(unittest.TestCase):
    def check(self, before, refused, firsts):
        expected = ask(*before, *SHOWN)[len(before):]
        self.assertEqual([answer[0] for answer in expected], firsts)
        for number, call in refused:
            answered = ask(*before, call, *SHOWN)[len(before):]
            self.assertEqual(answered[0], [number], call)
            self.assertEqual(answered[1:], expected, call)
        calls = [call for number, call in refused]
        self.assertEqual(ask(*before, *calls, *SHOWN)[len(before) + len(calls):], expected)

    def test_object_is_as_it_was(self):
        self.check(EXAMPLES + BARE, REFUSED, [2, 4, 2, 2, -3, -3, 6, -3, 7, 4, 7, 2, 2, 4, 3, 11, 4])

    def test_object_is_as_it_was_where_all_are_there(self):
        more = [("class", f"(class C{k} () ())") for k in range(28)]
        more += [("instance", f"(instance C{k} S 1 ())") for k in range(24)]
        before = EXAMPLES + BARE + tuple(more)
        self.assertEqual(ask(*before)[-1], [30])
        firsts = [2, 4, 2, 2, -3, -3, 6, -3, 8, 4, -8, -8, -8, -8, -8, -3, -3]
        self.check(before, REFUSED_WHERE_ALL_ARE_THERE, firsts)

    def test_each_call_and_each_of_its_refusals_is_tried(self):
        tried = {(call[0], number) for number, call in REFUSED + REFUSED_WHERE_ALL_ARE_THERE}
        named = {
            "class": (-1, -8, -2),
            "instance": (-1, -3, -8, -2, -4, -7),
            "value": (-3, -1, -5),
            "product": (-3, -1, -2, -8, -6),
            "part": (-3, -1, -2, -8, -5, -6),
            "quotient": (-3, -1, -2, -8, -5),
            "maps": (-3, -5, -6),
            "tell": (-3,),
        }
        self.assertEqual(tried, {(call, number) for call, numbers in named.items() for number in numbers})


class Together(unittest.TestCase):
    def test_made_ones_count_among_30(self):
        calls = [("class", "(class C () ())"), ("instance", "(instance C S 2 ())")]
        made = []
        for k in range(10):
            made.append(("product", "C", "S", "S", f"P{k}"))
            made.append(("part", [1], "C", "S", f"R{k}"))
            made.append(("quotient", [], "C", "S", f"Q{k}"))
        answered = ask(*calls, *made)
        self.assertEqual(answered[2:], [[4], [1, 1], [2, 0, 1]] * 9 + [[4], [1, 1], [-8]])
        for call in (("instance", "(instance C New 1 ())"), ("product", "C", "S", "S", "New"),
                     ("part", [1], "C", "S", "New"), ("quotient", [], "C", "S", "New")):
            self.assertEqual(ask(*calls, *made, call)[-1], [-8])
        self.assertEqual(ask(*calls, *made, ("fault", "(instance C New 1 ())"))[-1], [8])
        for count in range(29):
            self.assertEqual(ask(*calls, *made[:count], ("instance", "(instance C New 1 ())"))[-1], [count + 2])

    def test_names_of_made_ones_are_looked_at(self):
        for name in ("Two", "Four", "P", "Q"):
            one = f"(instance Group {name} 1 ((e 0) (inv 0) (mul 0)))"
            calls = (
                ("instance", one),
                ("fault", one),
                ("product", "Group", "Two", "Two", name),
                ("part", [0], "Group", "Two", name),
                ("quotient", [0, 1], "Group", "Two", name),
            )
            self.assertEqual(ask(*EXAMPLES, *calls)[len(EXAMPLES):], [[-2], [2], [-2], [-2], [-2]])

    def test_made_ones_may_be_used(self):
        two = TWO[TWO.index("2 ("):]
        for name in ("P", "Q"):
            calls = (
                ("value", [1, 0], "Group", name, "(mul X (inv Y))"),
                ("value", [2], "Group", name, "X"),
                ("product", "Group", name, "Four", "Eight"),
                ("part", [1], "Group", name, "Whole"),
                ("quotient", [0, 1], "Group", name, "One"),
                ("maps", 5, "Group", name, "Two"),
                ("maps", 5, "Group", "Two", name),
                ("tell", "Group", name),
                ("product", "Group", "Two", "Eight", "Sixteen"),
                ("part", [9, 6], "Group", "Sixteen", "Last"),
                ("tell", "Group", "Last"),
            )
            expected = [[1], [-5], [8], [2, 0, 1], [1, 0, 0], [2, 0, 0, 0, 1], [2, 0, 0, 0, 1]]
            expected += [with_text(2, f"(instance Group {name} {two}"), [16], [4, 0, 6, 9, 15]]
            expected += [with_text(4, FOUR.replace("Four", "Last"))]
            self.assertEqual(ask(*EXAMPLES, *calls)[len(EXAMPLES):], expected)
        calls = (("value", [2, 3], "Group", "Four", "(mul X (inv Y))"), ("maps", 1, "Group", "Four", "Four"))
        self.assertEqual(ask(*EXAMPLES, *calls)[len(EXAMPLES):], [[1], [16, 0, 0, 0, 0]])

    def test_what_is_made_keeps_the_laws(self):
        calls = EXAMPLES + (("instance", THREE), ("product", "Group", "Two", "Three", "Six"),
                            ("part", [4], "Group", "Six", "Part"), ("quotient", [0, 3], "Group", "Six", "Quotient"))
        for name in ("Four", "P", "Q", "Six", "Part", "Quotient"):
            told = ask(*calls, ("tell", "Group", name))[-1][1:]
            self.assertEqual(ask(("class", GROUP), ("instance", told)), [[1], [1]])

    def test_objects_do_not_share(self):
        self.assertEqual(ask(*EXAMPLES), EXAMPLE_ANSWERS)
        for call in EXAMPLES[3:]:
            self.assertEqual(ask(call), [[-3]])


class NothingElse(unittest.TestCase):
    def test_what_is_handed_in_is_not_changed(self):
        for calls in (EXAMPLES, hundred_calls()[0]):
            numbers = laid_out(calls)
            handed = Unchanging(numbers)
            self.assertEqual(answers(handed), answers(numbers))
            self.assertEqual(list(handed), laid_out(calls))
            self.assertEqual(numbers, laid_out(calls))

    def test_asked_twice(self):
        numbers = laid_out(hundred_calls()[0])
        once = answers(numbers)
        self.assertEqual(answers([0, 0]), [1, -1])
        self.assertEqual(answers(numbers), once)

    def test_what_is_given_back_is_new(self):
        numbers = laid_out(EXAMPLES)
        once = answers(numbers)
        once.clear()
        self.assertEqual(taken_apart(answers(numbers)), EXAMPLE_ANSWERS)

    def test_prints_reads_and_imports_nothing(self):
        def refuse(*rows, **named):
            raise AssertionError("something is read or imported")

        numbers = laid_out(hundred_calls()[0])
        printed = io.StringIO()
        with contextlib.redirect_stdout(printed), contextlib.redirect_stderr(printed):
            with mock.patch.object(builtins, "open", refuse), mock.patch.object(builtins, "input", refuse):
                with mock.patch.object(builtins, "__import__", refuse):
                    answers(numbers)
        self.assertEqual(printed.getvalue(), "")

    def test_whole_numbers_and_no_others(self):
        given = answers(laid_out(hundred_calls()[0]))
        self.assertIs(type(given), list)
        self.assertEqual({type(number) for number in given}, {int})


if __name__ == "__main__":
    unittest.main()
