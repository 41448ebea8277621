import re
import unittest

from quotedthreads.errors import InvalidText
from quotedthreads.programs import Program
from tests.values import ELSE, STRANGE, changed, many_programs

TEXT = "program two\nbegin >>: >>\nonly: @\nonly >: |>\nbegin #: gone\nelse: >"
PUT = "(gone|none|[#*+:=>|@]{1,3})"
RIGHT = re.compile(
    "program [a-z][a-z0-9]{0,7}"
    f"(\n(begin [#*+:=>|]{{1,2}}|only [#*+:=>|]|only): {PUT}){{0,4}}"
    f"\nelse: {PUT}"
)


class Read(unittest.TestCase):
    def test_each_kind_of_row(self):
        for row, case in (
            ("begin >: >", (">", False, ">")),
            ("begin >>: >>", (">>", False, ">>")),
            ("begin #|: @|@", ("#|", False, "@|@")),
            ("begin #: gone", ("#", False, None)),
            ("begin #>: none", ("#>", False, "")),
            ("begin :: :", (":", False, ":")),
            ("begin ::: :", ("::", False, ":")),
            ("begin ::: :::", ("::", False, ":::")),
            ("begin >:: :>:", (">:", False, ":>:")),
            ("begin :>: :", (":>", False, ":")),
            ("begin :: gone", (":", False, None)),
            ("only: @", ("", True, "@")),
            ("only: :", ("", True, ":")),
            ("only: none", ("", True, "")),
            ("only: gone", ("", True, None)),
            ("only >: |>", (">", True, "|>")),
            ("only :: ::", (":", True, "::")),
            ("only |: none", ("|", True, "")),
            ("only |: gone", ("|", True, None)),
        ):
            with self.subTest(row=row):
                text = f"program two\n{row}\nelse: >"
                program = Program.read(text)
                self.assertEqual(("two", (case, ELSE)), (program.name, program.cases))
                self.assertEqual(text, str(program))
                self.assertEqual(text, str(Program("two", (case, ELSE))))

    def test_each_kind_of_last_row(self):
        for row, put in (
            ("else: >", ">"),
            ("else: :", ":"),
            ("else: @@@", "@@@"),
            ("else: gone", None),
            ("else: none", ""),
        ):
            with self.subTest(row=row):
                program = Program.read("program p\n" + row)
                self.assertEqual(("p", (("", False, put),)), (program.name, program.cases))
                self.assertEqual("program p\n" + row, str(program))

    def test_the_text_of_the_document(self):
        program = Program.read(TEXT)
        cases = ((">>", False, ">>"), ("", True, "@"), (">", True, "|>"), ("#", False, None), ("", False, ">"))
        self.assertEqual(("two", cases), (program.name, program.cases))
        self.assertIs(Program, program.__class__)
        self.assertEqual(program, Program("two", cases))
        self.assertEqual(program, Program.read(text=TEXT))
        self.assertEqual(TEXT, str(program))

    def test_kinds_of_values(self):
        cases = Program.read(TEXT).cases
        self.assertEqual([tuple] * 6, [value.__class__ for value in (cases, *cases)])
        self.assertEqual([bool] * 5, [only.__class__ for _, only, _ in cases])

    def test_read_and_written_again(self):
        for program in many_programs():
            again = Program.read(str(program))
            self.assertEqual(str(program), str(again))
            self.assertEqual((program.name, program.cases), (again.name, again.cases))
            self.assertTrue(RIGHT.fullmatch(str(program)))

    def test_names_like_words_of_texts(self):
        for name in ("program", "begin", "only", "else", "gone", "none", "a", "z9999999"):
            self.assertEqual(name, Program.read(f"program {name}\nelse: >").name)

    def test_off_the_object(self):
        self.assertEqual(Program.read(TEXT), Program("a", (ELSE,)).read(TEXT))


class Refused(unittest.TestCase):
    def assert_no_text(self, text):
        with self.subTest(text=text):
            with self.assertRaises(InvalidText) as caught:
                Program.read(text)
            self.assertIs(text, caught.exception.given)

    def test_no_strings(self):
        rows = TEXT.split("\n")
        for value in [*STRANGE, TEXT.encode(), rows, tuple(rows), (TEXT,), Program.read(TEXT)]:
            self.assert_no_text(value)

    def test_by_name(self):
        with self.assertRaises(InvalidText) as caught:
            Program.read(text="program")
        self.assertEqual("program", caught.exception.given)

    def test_rows_too_many_too_few_doubled_or_moved(self):
        rows = TEXT.split("\n")
        self.assert_no_text("")
        self.assert_no_text("\n")
        self.assert_no_text("program two")
        self.assert_no_text("program two\n")
        self.assert_no_text("else: >")
        self.assert_no_text("\n".join(rows[1:]))
        self.assert_no_text("\n".join(rows[:-1]))
        self.assert_no_text("\n".join([*rows[:-1], "begin >: >", "else: >"]))
        self.assert_no_text("\n".join([rows[0], *rows]))
        self.assert_no_text("\n".join([*rows, rows[-1]]))
        self.assert_no_text("\n".join([*rows[:2], rows[-1], *rows[2:-1]]))
        self.assert_no_text("\n".join([rows[1], rows[0], *rows[2:]]))
        self.assert_no_text("\n".join(rows[::-1]))
        self.assert_no_text("\n".join([*rows[:-2], rows[-1], rows[-2]]))
        self.assert_no_text("\n".join([*rows, *rows]))
        self.assert_no_text("program two\nelse: >\nelse: >")
        self.assert_no_text("program two\nelse: >\nonly: >")
        self.assert_no_text("program two\nelse: >\nprogram one\nelse: >")
        self.assert_no_text("program two\n" + "only: >\n" * 5 + "else: >")

    def test_spaces_and_newlines_more_or_less(self):
        for text in (
            TEXT + "\n", "\n" + TEXT, " " + TEXT, TEXT + " ", TEXT.replace("\n", "\n\n", 1),
            TEXT.replace("\n", "\n ", 1), TEXT.replace("\n", " \n", 1), TEXT.replace("\n", ""),
            TEXT.replace("\n", "; "), TEXT.replace(" ", "  "), TEXT.replace(" ", ""),
            TEXT.replace(": ", ":"), TEXT.replace(": ", " : "), TEXT.replace("only:", "only :"),
            TEXT.replace("else:", "else :"), "program\ntwo\nelse: >", "program two\nelse:\n>",
            "program two\nelse: > ", "program two\n\nelse: >", "program two\nelse: >\n\n",
            "program two \nelse: >", "program  two\nelse: >",
        ):
            self.assert_no_text(text)

    def test_rows_that_are_written_otherwise(self):
        for row in (
            "begin: >", "begin : >", "begin >>>: >", "begin >>: ", "begin >>:", "begin >>",
            "begin >> >", "begin a: >", "begin @: >", "begin none: >", "begin >: >>>>",
            "begin >: a", "begin >: Gone", "begin >: gone>", "begin >: None", "begin >: None ",
            "begin >: ''", "begin  : >", "begin > : >", "begin > >: >", "Begin >: >",
            "begins >: >", "only >>: >", "only : >", "only:  >", "only: ", "only:", "only",
            "only >: ", "only >: none ", "only none: >", "only >: @@@@", "Only >: >", "onlyy >: >",
            "onlyx: >", "only>: >", "else >: >", "else : >", "else: >", "else", "", " ", ":", ": ",
            ": >", " : >", ">: >", ">", "gone", "program two", "program: >", "other: >",
            "other >: >", "otherwise: >", "begin >: >; only: >", "only: > >", "begin >: : >",
            "begin ::: :  ",
        ):
            self.assert_no_text(f"program two\n{row}\nelse: >")

    def test_last_rows_that_are_written_otherwise(self):
        for row in (
            "only: >", "begin >: >", "begin: >", "begin : >", "else >: >", "else : >", "else:>",
            "else: ", "else:", "else", "Else: >", "else: @@@@", "else: a", "else: None",
            "else: GONE", "else: none ", " else: >", "", ": >", ">", "begin none: >", "other: >",
            "else: > >", "else: else: >",
        ):
            self.assert_no_text(f"program two\n{row}")

    def test_first_rows_that_are_written_otherwise(self):
        for row in (
            "", "program", "program ", "two", "program  two", "Program two", "programs two",
            "program Two", "program 2", "program two two", "program a_b", "program abcdefghi",
            "program two:", "person two", "program program two", "program >", "programtwo",
            "program two >",
        ):
            self.assert_no_text(f"{row}\nelse: >")

    def test_every_small_change(self):
        for text in (
            TEXT,
            "program a\nelse: none",
            "program p1\nbegin ::: :\nonly :: gone\nelse: @:",
            "program z\nonly: :\nelse: gone",
        ):
            self.assertTrue(RIGHT.fullmatch(text))
            for other in changed(text):
                if RIGHT.fullmatch(other):
                    self.assertEqual(other, str(Program.read(other)))
                else:
                    self.assert_no_text(other)
