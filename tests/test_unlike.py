import random
import sys
import unittest

from quotedthreads.errors import NotAProgram
from quotedthreads.programs import Program, unlike
from tests.values import ELSE, SIGNS, STRANGE, many_programs, marks_up_to

PLAIN = Program("plain", (ELSE,))


def program(*cases):
    return Program("p", cases)


def made_up(draw):
    """A program of few signs, so that another one of them is often like it."""
    signs = draw.choice(("#", "|>", "*#", SIGNS))
    cases = []
    for _ in range(draw.randint(0, 4)):
        only = draw.choice((False, True))
        begin = "".join(draw.choices(signs, k=draw.randint(0, 1) if only else draw.randint(1, 2)))
        cases.append((begin, only, draw.choice((begin, "@" + begin, "@", "#", "*", "", None))))
    return program(*cases, ("", False, draw.choice(("#", "@", "", None))))


def with_one_case_else(one, draw):
    cases = list(one.cases)
    at = draw.randrange(len(cases))
    begin, only, put = cases[at]
    cases[at] = (begin, only, draw.choice(("@", "#", "*", "#@", "@#", begin, None, put)))
    return program(*cases)


def calls_of(action):
    """How many functions an action calls, those of Python among them."""
    called = []
    sys.setprofile(lambda frame, event, given: called.append(event))
    try:
        action()
    finally:
        sys.setprofile(None)
    return len([event for event in called if event in ("call", "c_call")])


def first_difference(one, other, marks):
    for some in marks:
        for own in SIGNS:
            if one.treat(some, own) != other.treat(some, own):
                return (some, own)
    return None


class Unlike(unittest.TestCase):
    def assert_unlike(self, wanted, one, other):
        with self.subTest(one=str(one), other=str(other)):
            self.assertEqual(wanted, unlike(one, other))
            self.assertEqual(wanted, unlike(other, one))
            self.assertEqual(wanted, unlike(other=other, one=one))

    def test_none_for_programs_that_treat_all_alike(self):
        for one, other in (
            (PLAIN, PLAIN),
            (PLAIN, Program("other", (ELSE,))),
            (PLAIN, program((">", False, ">>"), ELSE)),
            (PLAIN, program((">|", False, ">>|"), ("#", True, ">#"), ELSE)),
            (PLAIN, program(("", True, ">"), ELSE)),
            (
                program((">", False, "|"), ELSE),
                program((">", False, "|"), (">>", False, "#"), (">", True, None), ELSE),
            ),
            (
                program((">", True, "|"), (">", False, "*"), ELSE),
                program((">", True, "|"), (">", True, "#"), (">", False, "*"), ELSE),
            ),
            (program(("", False, None)), program((">", False, None), ("", True, None), ("", False, None))),
            (program(("", False, "")), program((">", False, ">"), ("#|", False, "#|"), ("", False, ""))),
            (program((">|", False, ">@"), ELSE), program((">|", False, ">@"), (">|", False, "@"), ELSE)),
            (program((">", True, "@>"), ELSE), program((">", True, "@>"), (">#", False, ">>#"), ELSE)),
        ):
            self.assert_unlike(None, one, other)

    def test_the_first_marks_by_length(self):
        for wanted, one in (
            ("", program(("", True, "|"), ELSE)),
            ("", program(("", False, "|"))),
            ("|", program(("##", False, "*"), ("|", False, "*"), ELSE)),
            ("|", program(("|", True, "*"), ELSE)),
            ("##", program(("##", False, "*"), ELSE)),
            ("||", program(("||", False, "*"), ELSE)),
            ("|#", program(("|", True, ">|"), ("|", False, "*"), ELSE)),
            ("=>", program(("=>", False, None), ELSE)),
        ):
            self.assert_unlike((wanted, "#"), PLAIN, one)

    def test_of_one_length_as_python_compares_them(self):
        for wanted, one in (
            ("+", program((":", False, "*"), ("+", False, "*"), ("|", False, "*"), ELSE)),
            ("#", program(("|", True, "*"), ("#", True, "*"), ELSE)),
            ("=", program((">", True, "*"), ("=", True, "*"), ELSE)),
            ("#|", program(("*#", False, "*"), ("#|", False, "*"), ELSE)),
            (">*", program((">+", False, "*"), (">*", False, "*"), ("||", False, "*"), ELSE)),
        ):
            self.assert_unlike((wanted, "#"), PLAIN, one)

    def test_then_the_first_own_sign(self):
        signed = program(("", False, "@"))
        for sign in SIGNS:
            wanted = "*" if sign == "#" else "#"
            self.assert_unlike(("", wanted), signed, program(("", False, sign)))
        self.assert_unlike((">", "#"), program((">", False, "@"), ELSE), program((">", False, "|"), ELSE))
        self.assert_unlike((">", "*"), program((">", False, "@#@"), ELSE), program((">", False, "###"), ELSE))
        self.assert_unlike(("||", "*"), program(("||", False, "@"), ELSE), program(("||", False, "#"), ELSE))

    def test_marks_come_before_own_signs(self):
        # At "" they are alike for #, at > they are unlike for # already.
        one = program(("", True, "@"), (">", True, "*"), ELSE)
        other = program(("", True, "#"), (">", True, "+"), ELSE)
        self.assert_unlike(("", "*"), one, other)

    def test_left_out_is_unlike_every_put(self):
        for put in ("", ">", "@"):
            gone = program((">>", False, None), ELSE)
            self.assert_unlike((">>", "#"), gone, program((">>", False, put), ELSE))
            self.assert_unlike(("", "#"), program(("", False, None)), program(("", False, put)))

    def test_what_stands_behind_the_begin(self):
        one = program((">", False, ">"), ELSE)
        self.assert_unlike((">#", "#"), one, program((">", True, ">"), (">", False, "|"), ELSE))
        one = program(("#", False, ""), ELSE)
        self.assert_unlike(("#>", "#"), one, program(("#>", False, ""), ("#", False, ""), ELSE))

    def test_the_kind_of_what_is_returned(self):
        found = unlike(PLAIN, program(("", False, "@")))
        self.assertIs(tuple, found.__class__)
        self.assertEqual(("", "#"), found)

    def test_as_the_document_tells_it(self):
        # More marks than unlike can need, so that none is told only if there is none.
        marks = marks_up_to(3)
        made = many_programs()
        for one in made[::2]:
            for other in made[::3]:
                short = first_difference(one, other, marks)
                self.assertEqual(short, unlike(one, other))

    def test_made_up_ones_as_the_document_tells_it(self):
        marks = marks_up_to(2)
        draw = random.Random(5)
        found = []
        for _ in range(300):
            one = made_up(draw)
            for other in (made_up(draw), with_one_case_else(one, draw), Program("other", one.cases)):
                wanted = first_difference(one, other, marks)
                self.assertEqual(wanted, unlike(one, other), f"{one}\n{other}")
                self.assertEqual(wanted, unlike(other, one), f"{one}\n{other}")
                found.append(wanted and (len(wanted[0]), wanted[1]))
        for kind in (None, (0, "#"), (1, "#"), (2, "#"), (0, "*"), (1, "*")):
            self.assertIn(kind, found)

    def test_all_signs_begun(self):
        one = program(("#", False, "#"), ("*", False, "*"), ("+", False, "+"), (":", False, ":"), ("", False, ""))
        other = program(("=", False, "="), (">", False, ">"), ("|", True, "|"), ("|#", False, "|#"), ("", False, ""))
        self.assert_unlike(None, one, other)
        self.assert_unlike(("", "#"), one, program(*other.cases[:-1], ("", False, "#")))
        self.assert_unlike(("|#", "#"), one, program(*other.cases[:3], ("|#", False, "#"), other.cases[-1]))

    def test_few_steps(self):
        # Only marks that the begins tell of are looked at: all of them with each sign take some 17000 calls.
        cases = ((">>", False, ">"), ("|", True, "@"), ("#", False, "@@"), (">", False, ""), ("", False, "@>"))
        reported = Program("a", cases)
        apart = program((">>", False, ""), ("##", False, ""), ("||", False, ""), ("::", False, ""), ("", False, ""))
        apart_too = program(("=*", False, ""), ("+*", False, ""), ("**", False, ""), ("#*", False, ""), ("", False, ""))
        for one, other in ((reported, reported), (reported, PLAIN), (apart, apart_too), (apart, apart)):
            with self.subTest(one=str(one), other=str(other)):
                self.assertLess(calls_of(lambda: unlike(one, other)), 600)

    def test_no_programs(self):
        for value in [*STRANGE, str(PLAIN), repr(PLAIN), "plain", (ELSE,), (PLAIN,), [PLAIN]]:
            for call in (
                lambda: unlike(value, PLAIN),
                lambda: unlike(PLAIN, value),
                lambda: unlike(other=value, one=PLAIN),
            ):
                with self.assertRaises(NotAProgram) as caught:
                    call()
                self.assertIs(value, caught.exception.given)

    def test_the_first_one_first(self):
        with self.assertRaises(NotAProgram) as caught:
            unlike("one", "other")
        self.assertEqual("one", caught.exception.given)
        with self.assertRaises(NotAProgram) as caught:
            unlike(other="other", one="one")
        self.assertEqual("one", caught.exception.given)
