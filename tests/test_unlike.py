import unittest

from quotedthreads.errors import NotAProgram
from quotedthreads.programs import Program, unlike
from tests.values import ELSE, SIGNS, STRANGE, many_programs, marks_up_to

PLAIN = Program("plain", (ELSE,))


def program(*cases):
    return Program("p", cases)


def first_difference(one, other, marks):
    for some in marks:
        for own in SIGNS:
            if one.treat(some, own) != other.treat(some, own):
                return (some, own)
    return None


class Unlike(unittest.TestCase):
    def assert_unlike(self, wanted, one, other):
        with self.subTest(one=str(one), other=str(other)):
            self.assertEqual(wanted, unlike(one, other))
            self.assertEqual(wanted, unlike(other, one))
            self.assertEqual(wanted, unlike(other=other, one=one))

    def test_none_for_programs_that_treat_all_alike(self):
        for one, other in (
            (PLAIN, PLAIN),
            (PLAIN, Program("other", (ELSE,))),
            (PLAIN, program((">", False, ">>"), ELSE)),
            (PLAIN, program((">|", False, ">>|"), ("#", True, ">#"), ELSE)),
            (PLAIN, program(("", True, ">"), ELSE)),
            (
                program((">", False, "|"), ELSE),
                program((">", False, "|"), (">>", False, "#"), (">", True, None), ELSE),
            ),
            (
                program((">", True, "|"), (">", False, "*"), ELSE),
                program((">", True, "|"), (">", True, "#"), (">", False, "*"), ELSE),
            ),
            (program(("", False, None)), program((">", False, None), ("", True, None), ("", False, None))),
            (program(("", False, "")), program((">", False, ">"), ("#|", False, "#|"), ("", False, ""))),
            (program((">|", False, ">@"), ELSE), program((">|", False, ">@"), (">|", False, "@"), ELSE)),
            (program((">", True, "@>"), ELSE), program((">", True, "@>"), (">#", False, ">>#"), ELSE)),
        ):
            self.assert_unlike(None, one, other)

    def test_the_first_marks_by_length(self):
        for wanted, one in (
            ("", program(("", True, "|"), ELSE)),
            ("", program(("", False, "|"))),
            ("|", program(("##", False, "*"), ("|", False, "*"), ELSE)),
            ("|", program(("|", True, "*"), ELSE)),
            ("##", program(("##", False, "*"), ELSE)),
            ("||", program(("||", False, "*"), ELSE)),
            ("|#", program(("|", True, ">|"), ("|", False, "*"), ELSE)),
            ("=>", program(("=>", False, None), ELSE)),
        ):
            self.assert_unlike((wanted, "#"), PLAIN, one)

    def test_of_one_length_as_python_compares_them(self):
        for wanted, one in (
            ("+", program((":", False, "*"), ("+", False, "*"), ("|", False, "*"), ELSE)),
            ("#", program(("|", True, "*"), ("#", True, "*"), ELSE)),
            ("=", program((">", True, "*"), ("=", True, "*"), ELSE)),
            ("#|", program(("*#", False, "*"), ("#|", False, "*"), ELSE)),
            (">*", program((">+", False, "*"), (">*", False, "*"), ("||", False, "*"), ELSE)),
        ):
            self.assert_unlike((wanted, "#"), PLAIN, one)

    def test_then_the_first_own_sign(self):
        signed = program(("", False, "@"))
        for sign in SIGNS:
            wanted = "*" if sign == "#" else "#"
            self.assert_unlike(("", wanted), signed, program(("", False, sign)))
        self.assert_unlike((">", "#"), program((">", False, "@"), ELSE), program((">", False, "|"), ELSE))
        self.assert_unlike((">", "*"), program((">", False, "@#@"), ELSE), program((">", False, "###"), ELSE))
        self.assert_unlike(("||", "*"), program(("||", False, "@"), ELSE), program(("||", False, "#"), ELSE))

    def test_marks_come_before_own_signs(self):
        # At "" they are alike for #, at > they are unlike for # already.
        one = program(("", True, "@"), (">", True, "*"), ELSE)
        other = program(("", True, "#"), (">", True, "+"), ELSE)
        self.assert_unlike(("", "*"), one, other)

    def test_left_out_is_unlike_every_put(self):
        for put in ("", ">", "@"):
            gone = program((">>", False, None), ELSE)
            self.assert_unlike((">>", "#"), gone, program((">>", False, put), ELSE))
            self.assert_unlike(("", "#"), program(("", False, None)), program(("", False, put)))

    def test_what_stands_behind_the_begin(self):
        one = program((">", False, ">"), ELSE)
        self.assert_unlike((">#", "#"), one, program((">", True, ">"), (">", False, "|"), ELSE))
        one = program(("#", False, ""), ELSE)
        self.assert_unlike(("#>", "#"), one, program(("#>", False, ""), ("#", False, ""), ELSE))

    def test_the_kind_of_what_is_returned(self):
        found = unlike(PLAIN, program(("", False, "@")))
        self.assertIs(tuple, found.__class__)
        self.assertEqual(("", "#"), found)

    def test_as_the_document_tells_it(self):
        # More marks than unlike can need, so that none is told only if there is none.
        marks = marks_up_to(3)
        made = many_programs()
        for one in made[::2]:
            for other in made[::3]:
                short = first_difference(one, other, marks)
                self.assertEqual(short, unlike(one, other))

    def test_no_programs(self):
        for value in [*STRANGE, str(PLAIN), repr(PLAIN), "plain", (ELSE,), (PLAIN,), [PLAIN]]:
            for call in (
                lambda: unlike(value, PLAIN),
                lambda: unlike(PLAIN, value),
                lambda: unlike(other=value, one=PLAIN),
            ):
                with self.assertRaises(NotAProgram) as caught:
                    call()
                self.assertIs(value, caught.exception.given)

    def test_the_first_one_first(self):
        with self.assertRaises(NotAProgram) as caught:
            unlike("one", "other")
        self.assertEqual("one", caught.exception.given)
        with self.assertRaises(NotAProgram) as caught:
            unlike(other="other", one="one")
        self.assertEqual("one", caught.exception.given)
