import unittest

from quotedthreads.errors import InvalidMarks, InvalidSign
from quotedthreads.programs import Program
from tests.values import ELSE, SIGNS, STRANGE, many_programs, marks_up_to

ALL = Program("all", (("", True, "@"), (">", True, "|>"), (">>", False, ">>"), ("#", False, None), ELSE))
WRONG_MARKS = ["@", "a", ">a", "a>", " ", "> ", " >", ">\n", "\n", "none", ">@>", ">>>>>x", *STRANGE]
WRONG_SIGNS = ["", "@", "a", " ", "\n", ">>", "#*", ">|", "=>", "> ", ">\n", SIGNS, *STRANGE]


def fitting(program, marks):
    """The index of the case that fits, as [7] tells it."""
    for index, (begin, only, _) in enumerate(program.cases):
        if only and marks == begin or not only and marks[:len(begin)] == begin:
            return index
    raise AssertionError("no case fits")


def treated(program, marks, own):
    """What the program makes of marks, as [7] tells it."""
    begin, _, put = program.cases[fitting(program, marks)]
    if put is None:
        return None
    made = ""
    for letter in put:
        made += own if letter == "@" else letter
    return made + marks[len(begin):]


class Treat(unittest.TestCase):
    def test_each_kind_of_case(self):
        for cases, marks, own, made in (
            ((ELSE,), "", "|", ">"),
            ((ELSE,), ">", "|", ">>"),
            ((ELSE,), "|:#", "|", ">|:#"),
            (((">>", False, ">>"), ELSE), ">>", "|", ">>"),
            (((">>", False, ">>"), ELSE), ">>|#", "|", ">>|#"),
            (((">>", False, "|"), ELSE), ">>>", "#", "|>"),
            (((">>", False, "|"), ELSE), ">|>", "#", ">>|>"),
            (((">", False, "|"), ELSE), ">", "#", "|"),
            (((">", False, "|"), ELSE), ">>", "#", "|>"),
            (((">", False, "|"), ELSE), "|>", "#", ">|>"),
            (((">", True, "|"), ELSE), ">", "#", "|"),
            (((">", True, "|"), ELSE), ">>", "#", ">>>"),
            (((">", True, "|"), ELSE), "", "#", ">"),
            ((("", True, "|"), ELSE), "", "#", "|"),
            ((("", True, "|"), ELSE), "|", "#", ">|"),
            ((("", False, None),), "", "#", None),
            ((("", False, None),), ">>>", "#", None),
            (((">", True, None), ELSE), ">", "#", None),
            (((">", True, None), ELSE), ">>", "#", ">>>"),
            ((("#", False, None), ELSE), "#>", "#", None),
            ((("", False, ""),), ">|", "#", ">|"),
            ((("", False, ""),), "", "#", ""),
            (((">", False, ""), ELSE), ">|>", "#", "|>"),
            (((">|", False, ""), ELSE), ">|", "#", ""),
            (((">", True, ""), ELSE), ">", "#", ""),
            ((("", False, "@"),), "|", ":", ":|"),
            ((("", False, "@>@"),), "|", ":", ":>:|"),
            ((("", False, "@@@"),), "", "*", "***"),
            (((">|", False, ">@"), ELSE), ">|=", "+", ">+="),
        ):
            with self.subTest(cases=cases, marks=marks, own=own):
                program = Program("p", cases)
                self.assertEqual(made, program.treat(marks, own))
                self.assertEqual(made, program.treat(own=own, marks=marks))

    def test_the_first_case_that_fits(self):
        one = Program("p", ((">", False, "|"), (">>", False, "#"), (">", True, "*"), ELSE))
        self.assertEqual(["|>", "|"], [one.treat(marks, ":") for marks in (">>", ">")])
        self.assertEqual([0, 0, 3], [one.taken(marks) for marks in (">>", ">", "")])
        other = Program("p", ((">", True, "*"), (">>", False, "#"), (">", False, "|"), ELSE))
        self.assertEqual(["#", "*", "||"], [other.treat(marks, ":") for marks in (">>", ">", ">|")])
        self.assertEqual([1, 0, 2, 3, 3], [other.taken(marks) for marks in (">>", ">", ">|", "", "|>")])

    def test_as_the_document_tells_it(self):
        pairs = [(marks, own) for marks in marks_up_to(3) for own in SIGNS]
        for program in many_programs():
            wrong = [pair for pair in pairs if program.treat(*pair) != treated(program, *pair)]
            self.assertEqual([], wrong[:5], str(program))

    def test_many_signs(self):
        for program in many_programs():
            for marks in (">" * 4000, "|>" * 2000, "#*+:=>|" * 500, ":" * 3999, "*" + "+" * 3999):
                # Not assertEqual: it takes long to tell how long strings differ.
                self.assertTrue(treated(program, marks, "=") == program.treat(marks, "="), str(program))

    def test_equal_calls_return_equal_results(self):
        self.assertEqual([ALL.treat(">>", "|")] * 3, [ALL.treat(">>", "|") for _ in range(3)])
        self.assertEqual(5, len(ALL.cases))

    def test_wrong_marks(self):
        for marks in WRONG_MARKS:
            for call in (lambda: ALL.treat(marks, "|"), lambda: ALL.treat(own="|", marks=marks)):
                with self.assertRaises(InvalidMarks) as caught:
                    call()
                self.assertIs(marks, caught.exception.given)

    def test_wrong_signs(self):
        gone = Program("p", (("", False, None),))
        plain = Program("p", (ELSE,))
        signed = Program("p", (("", False, "@"),))
        for own in WRONG_SIGNS:
            for program in (gone, plain, signed, ALL):
                for marks in ("", ">", "#>", ">>>"):
                    for call in (
                        lambda: program.treat(marks, own),
                        lambda: program.treat(own=own, marks=marks),
                    ):
                        with self.assertRaises(InvalidSign) as caught:
                            call()
                        self.assertIs(own, caught.exception.given)

    def test_marks_are_looked_at_first(self):
        for own in WRONG_SIGNS:
            for marks in ("@", None, [">"], "> "):
                with self.assertRaises(InvalidMarks) as caught:
                    ALL.treat(marks, own)
                self.assertIs(marks, caught.exception.given)

    def test_every_sign_is_right(self):
        for own in SIGNS:
            self.assertEqual(own, ALL.treat("", own))


class Taken(unittest.TestCase):
    def test_each_kind_of_case(self):
        for marks, index in (
            ("", 0), (">", 1), (">>", 2), (">>>", 2), (">>|", 2), ("#", 3), ("#>", 3), ("##", 3),
            (">#", 4), ("|", 4), (">|>", 4), ("|>>", 4), (">" * 4000, 2), ("|" * 4000, 4),
        ):
            with self.subTest(marks=marks):
                self.assertEqual(index, ALL.taken(marks))
                self.assertEqual(index, ALL.taken(marks=marks))
                self.assertIs(int, ALL.taken(marks).__class__)

    def test_as_the_document_tells_it(self):
        marks = marks_up_to(3)
        for program in many_programs():
            wrong = [one for one in marks if program.taken(one) != fitting(program, one)]
            self.assertEqual([], wrong[:5], str(program))

    def test_wrong_marks(self):
        for marks in WRONG_MARKS:
            for call in (lambda: ALL.taken(marks), lambda: ALL.taken(marks=marks)):
                with self.assertRaises(InvalidMarks) as caught:
                    call()
                self.assertIs(marks, caught.exception.given)
