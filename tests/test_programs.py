import unittest

from quotedthreads import programs
from quotedthreads.errors import InvalidCases, InvalidName
from quotedthreads.programs import Program
from tests.values import ELSE, SIGNS, STRANGE, EqualToAll, many_programs

FIVE = (("", True, "@"), (">", True, "|>"), (">>", False, ">>"), ("#", False, None), ("", False, ""))
LETTERS = "abcdefghijklmnopqrstuvwxyz"
DIGITS = "0123456789"
ASCII = "\n" + "".join([chr(code) for code in range(ord(" "), ord("~") + 1)])


class Made(unittest.TestCase):
    def test_by_position_and_by_name(self):
        for program in (
            Program("two", FIVE),
            Program(name="two", cases=FIVE),
            Program(cases=FIVE, name="two"),
            Program("two", cases=FIVE),
        ):
            self.assertEqual("two", program.name)
            self.assertEqual(FIVE, program.cases)

    def test_names(self):
        good = [*LETTERS, "a0", "z9", "abcdefgh", "z9999999", "a1b2c3d4", "program", "else", "gone", "none"]
        for name in good:
            with self.subTest(name=name):
                self.assertEqual(name, Program(name, (ELSE,)).name)

    def test_all_characters_of_names(self):
        for letter in ASCII:
            for name, right in (
                (letter, letter in LETTERS),
                ("a" + letter, letter in LETTERS + DIGITS),
                ("abcdefg" + letter, letter in LETTERS + DIGITS),
                ("a" + letter + "b", letter in LETTERS + DIGITS),
            ):
                with self.subTest(name=name):
                    if right:
                        self.assertEqual(name, Program(name, (ELSE,)).name)
                    else:
                        self.assertRaises(InvalidName, Program, name, (ELSE,))

    def test_one_to_five_cases(self):
        for many in range(1, 6):
            cases = FIVE[5 - many:]
            with self.subTest(many=many):
                program = Program("p", cases)
                self.assertEqual(cases, program.cases)
                self.assertEqual(f"Program p of {many} cases", repr(program))

    def test_repr(self):
        self.assertEqual("Program two of 5 cases", repr(Program("two", FIVE)))
        self.assertEqual("Program z9999999 of 1 cases", repr(Program("z9999999", (ELSE,))))

    def test_text(self):
        for cases, text in (
            ((ELSE,), "program two\nelse: >"),
            ((("", False, None),), "program two\nelse: gone"),
            ((("", False, ""),), "program two\nelse: none"),
            (((">>", False, ">>"), ELSE), "program two\nbegin >>: >>\nelse: >"),
            (
                FIVE,
                "program two\nonly: @\nonly >: |>\nbegin >>: >>\nbegin #: gone\nelse: none",
            ),
        ):
            with self.subTest(cases=cases):
                self.assertEqual(text, str(Program("two", cases)))

    def test_every_begin_and_put_that_is_right(self):
        puts = [None, "", "@", "@@@", "@>@", "#*+", ":=>", "|||", *SIGNS]
        for put in puts:
            self.assertEqual((("", False, put),), Program("p", (("", False, put),)).cases)
        begins = [(one + two, False) for one in SIGNS for two in SIGNS]
        begins += [(one, only) for one in SIGNS for only in (False, True)]
        for begin, only in [*begins, ("", True)]:
            cases = ((begin, only, ">"), ELSE)
            self.assertEqual(cases, Program("p", cases).cases)

    def test_the_same_case_may_stand_there_twice(self):
        cases = ((">", True, "@"), (">", True, "@"), (">", False, "@"), (">", False, "|"), ELSE)
        self.assertEqual(cases, Program("p", cases).cases)

    def test_only_else_may_be_missing_its_signs(self):
        cases = (("", True, None), ("", True, "@"), ("", False, "@"))
        self.assertEqual(cases, Program("p", cases).cases)

    def test_nothing_of_it_can_be_changed(self):
        program = Program("two", FIVE)
        for name in ("name", "cases"):
            with self.assertRaises(AttributeError):
                setattr(program, name, "other")
        self.assertEqual(("two", FIVE), (program.name, program.cases))

    def test_the_interface_is_defined_in_its_file(self):
        self.assertEqual("quotedthreads.programs", Program.__module__)
        self.assertEqual("quotedthreads.programs", programs.unlike.__module__)
        for name in ("__init__", "read", "name", "cases", "treat", "taken", "__eq__", "__str__", "__repr__"):
            self.assertIn(name, vars(Program))


class Equal(unittest.TestCase):
    def test_exactly_if_the_texts_are(self):
        made = many_programs()
        made += [Program("one", program.cases) for program in made[:9]]
        made += [Program("two", FIVE), Program("two", tuple(list(FIVE))), Program("two2", FIVE)]
        for one in made:
            for other in made:
                alike = str(one) == str(other)
                self.assertIs(alike, one == other)
                self.assertIs(not alike, one != other)

    def test_made_twice(self):
        self.assertTrue(Program("two", FIVE) == Program.read(str(Program("two", FIVE))))
        self.assertFalse(Program("two", FIVE) != Program("two", FIVE))

    def test_alike_is_not_equal(self):
        longer = Program("two", ((">", False, ">>"), ELSE))
        self.assertFalse(longer == Program("two", (ELSE,)))
        self.assertFalse(Program("one", (ELSE,)) == Program("two", (ELSE,)))

    def test_no_value_of_another_class(self):
        program = Program("two", FIVE)
        for value in [*STRANGE, str(program), repr(program), "two", FIVE, ("two", FIVE), EqualToAll()]:
            self.assertIs(False, program == value)
            self.assertIs(True, program != value)

    def test_in(self):
        program = Program("two", FIVE)
        self.assertIn(Program("two", FIVE), (None, "two", program))
        self.assertNotIn(Program("one", FIVE), (None, "two", program))

    def test_true(self):
        for cases in (FIVE, (("", False, None),), (("", False, ""),)):
            program = Program("two", cases)
            self.assertIs(True, bool(program))


class Refused(unittest.TestCase):
    def assert_name(self, name, cases=(ELSE,)):
        with self.assertRaises(InvalidName) as caught:
            Program(name, cases)
        self.assertIs(name, caught.exception.given)

    def assert_cases(self, index, cases):
        with self.subTest(cases=cases):
            with self.assertRaises(InvalidCases) as caught:
                Program("two", cases)
            if index is None:
                self.assertIsNone(caught.exception.index)
            else:
                self.assertIs(int, caught.exception.index.__class__)
                self.assertEqual(index, caught.exception.index)

    def test_names(self):
        names = ["", "abcdefghi", "a" * 100, "Two", "tWo", "2two", "0", " two", "two ", "two\n"]
        for name in [*names, "a b", "a_b", "a-b"]:
            with self.subTest(name=name):
                self.assert_name(name)

    def test_names_of_any_kind(self):
        for name in STRANGE:
            self.assert_name(name)

    def test_a_name_is_looked_at_before_the_cases(self):
        for cases in (None, (), [ELSE], ((">>", True, ">"),), (ELSE, ELSE)):
            self.assert_name("Two", cases)
            self.assert_name(None, cases)

    def test_by_name(self):
        with self.assertRaises(InvalidName) as caught:
            Program(cases=(), name=3)
        self.assertEqual(3, caught.exception.given)
        with self.assertRaises(InvalidCases) as caught:
            Program(cases=(ELSE, ELSE), name="two")
        self.assertEqual(0, caught.exception.index)

    def test_no_tuple_and_no_cases(self):
        for cases in [value for value in STRANGE if not isinstance(value, tuple)]:
            self.assert_cases(None, cases)
        for cases in ((), [], [ELSE], [[ELSE]], {ELSE: 1}, {ELSE}, "", ">", str(ELSE)):
            self.assert_cases(None, cases)

    def test_what_is_no_triple(self):
        wrong = [list(ELSE), (), ("",), ("", False), ("", False, ">", ">"), ("", False, ">", False), "", ">>>"]
        wrong += [(False, "", ">"), ("", ">", False), {"": 1, False: 2, ">": 3}]
        for value in [*wrong, *STRANGE]:
            self.assert_cases(0, (value,))
            self.assert_cases(0, (value, ELSE))
            self.assert_cases(1, ((">", False, ">"), value))
            self.assert_cases(1, ((">", False, ">"), value, ELSE))

    def test_begins(self):
        wrong = ["@", "a", ">a", "a>", " ", "> ", " >", ">\n", ">>>", "#*+", SIGNS, ">" * 50, "none", "gone"]
        for begin in [*wrong, *STRANGE]:
            for only in (False, True):
                self.assert_cases(0, ((begin, only, ">"), ELSE))
                self.assert_cases(0, ((begin, only, ">"),))
                self.assert_cases(1, (("", True, ">"), (begin, only, ">"), ELSE))

    def test_begins_of_two_signs_in_only_cases(self):
        for begin in (">>", "#*", "||", "=>"):
            self.assert_cases(0, ((begin, True, ">"), ELSE))
            self.assert_cases(2, ((">", True, ">"), (begin, False, ">"), (begin, True, None), ELSE))

    def test_only_is_true_or_false(self):
        wrong = [value for value in STRANGE if not isinstance(value, bool)]
        for only in [*wrong, "", "only", "True"]:
            self.assert_cases(0, ((">", only, ">"), ELSE))
            self.assert_cases(0, (("", only, ">"),))
            self.assert_cases(1, ((">", False, ">"), ("", only, ">")))

    def test_puts(self):
        wrong = [">>>>", "@@@@", "#*+:", SIGNS, ">" * 50, "a", ">a", "a>", "> ", " ", "\n", ">\n"]
        wrong += [value for value in STRANGE if value is not None]
        for put in [*wrong, "gone", "none", "no", "@ @"]:
            self.assert_cases(0, (("", False, put),))
            self.assert_cases(0, ((">", True, put), ELSE))
            self.assert_cases(1, ((">", True, "@"), (">", False, put), ELSE))

    def test_an_else_with_another_element_behind_it(self):
        self.assert_cases(0, (ELSE, ELSE))
        self.assert_cases(0, (ELSE, (">", False, ">")))
        self.assert_cases(0, (ELSE, None))
        self.assert_cases(1, ((">", False, ">"), ELSE, (">", True, ">"), ELSE))
        self.assert_cases(4, (*FIVE, None))
        self.assert_cases(3, (*FIVE[:3], ELSE, ELSE, ELSE, ELSE))

    def test_a_last_one_that_is_no_else(self):
        self.assert_cases(0, (("", True, ">"),))
        self.assert_cases(0, ((">", False, ">"),))
        self.assert_cases(0, ((">", True, ">"),))
        self.assert_cases(1, ((">", False, ">"), (">>", False, ">")))
        self.assert_cases(4, (*FIVE[:4], ("#", False, ">")))
        self.assert_cases(4, (*FIVE[:4], ("", True, ">")))

    def test_a_sixth_element(self):
        one = (">", False, ">")
        self.assert_cases(5, (one, one, one, one, one, ELSE))
        self.assert_cases(5, (one, one, one, one, one, one))
        self.assert_cases(5, (one, one, one, one, one, None))
        self.assert_cases(5, (one, one, one, one, one, one, ELSE))
        self.assert_cases(5, (one,) * 40)
        self.assert_cases(4, (one, one, one, one, None, ELSE))
        self.assert_cases(0, (None,) * 9)

    def test_the_first_wrong_one_is_told(self):
        self.assert_cases(1, ((">", False, ">"), (">>", True, ">"), None, (">", 0, ">")))
        self.assert_cases(0, ((">", 0, ">"), (">>", True, ">"), ELSE))
        self.assert_cases(2, ((">", False, ">"), (">", True, ">"), (">", False, "a"), ("", True, ">")))

    def test_lists_in_the_place_of_tuples_and_numbers_of_truths(self):
        self.assert_cases(0, ([">", False, ">"], ELSE))
        self.assert_cases(0, (["", False, ">"],))
        self.assert_cases(1, ((">", True, ">"), ["", False, ">"]))
        self.assert_cases(0, (("", 0, ">"),))
        self.assert_cases(0, ((">", 1, ">"), ELSE))
        self.assert_cases(0, (([">"], False, ">"), ELSE))
        self.assert_cases(0, ((">", False, [">"]), ELSE))

    def test_nothing_that_is_passed_is_changed(self):
        row = [">", False, ">"]
        cases = [row, ELSE]
        name = ["two"]
        self.assert_cases(None, cases)
        self.assert_cases(0, (row, ELSE))
        self.assert_name(name)
        self.assertEqual(([">", False, ">"], [[">", False, ">"], ELSE], ["two"]), (row, cases, name))
