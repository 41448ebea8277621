"""What a book tells by name, and the books that differ from it in one thing."""

import unittest

from quotedthreads.books import Book
from quotedthreads.errors import InvalidAnswers, InvalidSigns, TooManySigns, UnknownPerson, UnknownProgram
from quotedthreads.programs import Program
from tests.test_books import ALL, ANSWERS, PEOPLE, PROGRAMS, SIGNED, TWO
from tests.values import ELSE, NO_NAMES, NO_SIGNS, SIGNS, STRANGE, plain

FULL = Book((("ann", "#"), ("bob", "*"), ("cid", "#")), (TWO, plain("three")), (("bob", "two", "ann"),))
FULL_TEXT = str(FULL)


class Told(unittest.TestCase):
    def test_own(self):
        for name, sign in PEOPLE:
            self.assertEqual(sign, ALL.own(name))
            self.assertEqual(sign, ALL.own(name=name))

    def test_program(self):
        for program in PROGRAMS:
            self.assertIs(program, ALL.program(program.name))
            self.assertIs(program, ALL.program(name=program.name))

    def test_unknown_people(self):
        wrong = ["eve", "two", "Ann", "ann ", "an", "annn", ">", ("ann",), ["ann"], ("ann", ">"), PEOPLE, TWO, ALL]
        for value in [*wrong, *NO_NAMES, *STRANGE]:
            for call in (lambda: ALL.own(value), lambda: ALL.own(name=value)):
                with self.assertRaises(UnknownPerson) as caught:
                    call()
                self.assertIs(value, caught.exception.given)

    def test_unknown_programs(self):
        wrong = ["five", "ann", "Two", "two ", "tw", "twoo", ("two",), ["two"], TWO, str(TWO), ALL]
        for value in [*wrong, *NO_NAMES, *STRANGE]:
            for call in (lambda: ALL.program(value), lambda: ALL.program(name=value)):
                with self.assertRaises(UnknownProgram) as caught:
                    call()
                self.assertIs(value, caught.exception.given)


class Unchanged(unittest.TestCase):
    """Each test asks a book for other ones, or in vain, and it stays as it was."""

    def setUp(self):
        self.book = Book.read(FULL_TEXT)
        self.before = (self.book.people, self.book.programs, self.book.answers, self.book.names, self.book.signs)

    def tearDown(self):
        book = self.book
        self.assertEqual(self.before, (book.people, book.programs, book.answers, book.names, book.signs))
        self.assertEqual(FULL_TEXT, str(book))
        self.assertEqual([sign for _, sign in book.people], [book.own(name) for name in book.names])
        self.assertEqual([TWO, plain("three")], [book.program("two"), book.program("three")])

    def assert_raises(self, error, attribute, value, *calls):
        for call in calls:
            with self.assertRaises(error) as caught:
                call()
            found = getattr(caught.exception, attribute)
            if attribute == "given":
                self.assertIs(value, found)
            else:
                self.assertEqual((value, value.__class__), (found, found.__class__))


class WithProgram(Unchanged):
    def test_it_stands_in_the_place_of_the_one_with_its_name(self):
        three = Program("three", (("", True, "@"), ("", False, None)))
        for book in (self.book.with_program(three), self.book.with_program(program=three)):
            self.assertIs(Book, book.__class__)
            self.assertEqual((TWO, three), book.programs)
            self.assertEqual((self.book.people, self.book.answers), (book.people, book.answers))
            self.assertIs(three, book.program("three"))
            self.assertEqual(FULL_TEXT.replace("three\nelse: >", "three\nonly: @\nelse: gone"), str(book))
        two = plain("two")
        self.assertEqual((two, plain("three")), self.book.with_program(two).programs)
        self.assertEqual(Book(self.book.people, (two, plain("three")), self.book.answers), self.book.with_program(two))

    def test_each_place(self):
        for at, program in enumerate(PROGRAMS):
            other = Program(program.name, (("", False, "|@"),))
            wanted = Book(PEOPLE, (*PROGRAMS[:at], other, *PROGRAMS[at + 1:]), ANSWERS)
            self.assertEqual(wanted, ALL.with_program(other))

    def test_an_equal_one(self):
        self.assertEqual(self.book, self.book.with_program(Program("two", TWO.cases)))

    def test_other_signs(self):
        self.assertEqual("#*>", self.book.signs)
        self.assertEqual("#*>|", self.book.with_program(Program("two", (("", False, "|"),))).signs)
        both = self.book.with_program(Program("two", (("", False, "|"),)))
        self.assertEqual("#*:|", both.with_program(Program("three", (("", False, ":"),))).signs)

    def test_unknown(self):
        wrong = [SIGNED, plain("four"), plain("ann"), "two", str(TWO), TWO.cases, (TWO,), [TWO], self.book]
        wrong += [Program("four", ((":=", False, "|+"), ELSE))]
        for value in [*wrong, *STRANGE]:
            self.assert_raises(
                UnknownProgram, "given", value,
                lambda: self.book.with_program(value), lambda: self.book.with_program(program=value),
            )

    def test_too_many_signs(self):
        for many, cases in (
            (5, (("", False, ":="),)), (5, ((":=", False, ">"), ELSE)), (5, ((":", True, "="), ("", False, None))),
            (6, ((":=", False, "|"), ELSE)), (7, ((":=", False, "|+"), ELSE)),
        ):
            program = Program("two", cases)
            self.assert_raises(TooManySigns, "many", many, lambda: self.book.with_program(program))
        program = Program("three", (("", False, ":|"),))
        self.assert_raises(TooManySigns, "many", 5, lambda: self.book.with_program(program=program))


class WithSigns(Unchanged):
    def test_the_people_have_them_in_their_order(self):
        for book in (self.book.with_signs((":", "#", ">")), self.book.with_signs(signs=(":", "#", ">"))):
            self.assertIs(Book, book.__class__)
            self.assertEqual((("ann", ":"), ("bob", "#"), ("cid", ">")), book.people)
            self.assertEqual((self.book.programs, self.book.answers), (book.programs, book.answers))
            self.assertEqual([":", "#", ">"], [book.own(name) for name in book.names])
            self.assertEqual("#:>", book.signs)
            self.assertIs(tuple, book.people.__class__)
            self.assertEqual([tuple] * 3, [pair.__class__ for pair in book.people])

    def test_the_same_ones(self):
        self.assertEqual(self.book, self.book.with_signs(("#", "*", "#")))
        self.assertEqual(">", self.book.with_signs((">", ">", ">")).signs)

    def test_a_wrong_number_and_no_tuple(self):
        wrong = [(), ("#",), ("#", "*"), ("#", "*", "#", "*"), (None,), (None, "#"), ("@",) * 4, ("|", ":", "=", "+")]
        wrong += [["#", "*", "#"], "#*#", "", {"#": 1, "*": 2, ">": 3}, self.book.people + (None,), PEOPLE]
        for value in [*wrong, *[value for value in STRANGE if not isinstance(value, tuple) or len(value) != 3]]:
            self.assert_raises(
                InvalidSigns, "index", None,
                lambda: self.book.with_signs(value), lambda: self.book.with_signs(signs=value),
            )

    def test_what_is_no_sign(self):
        for value in [*NO_SIGNS, *STRANGE, ("#",), ["#"], ("ann", "#")]:
            self.assert_raises(InvalidSigns, "index", 0, lambda: self.book.with_signs((value, "#", "#")))
            self.assert_raises(InvalidSigns, "index", 0, lambda: self.book.with_signs((value, value, value)))
            self.assert_raises(InvalidSigns, "index", 1, lambda: self.book.with_signs(("#", value, "*")))
            self.assert_raises(InvalidSigns, "index", 2, lambda: self.book.with_signs((":", "=", value)))
        self.assert_raises(InvalidSigns, "index", 1, lambda: self.book.with_signs(("#", "ab", None)))

    def test_too_many_signs(self):
        people = tuple(zip("abcd", SIGNS))
        book = Book(people, (Program("p", (("", False, "@"),)),), ())
        self.assertEqual(":=>|", book.with_signs((":", "=", ">", "|")).signs)
        book = Book(people, (Program("p", (("#", False, "@"), ("", False, "*"))),), ())
        self.assert_raises(TooManySigns, "many", 5, lambda: book.with_signs((":", "=", ">", "*")))
        self.assert_raises(TooManySigns, "many", 6, lambda: book.with_signs(signs=(":", "=", ">", "|")))
        self.assert_raises(InvalidSigns, "index", 3, lambda: book.with_signs((":", "=", ">", "@")))


class WithAnswers(Unchanged):
    def test_others(self):
        answers = (("ann", "three", "cid"), ("bob", "two", "ann"), ("cid", "two", "cid"))
        for book in (self.book.with_answers(answers), self.book.with_answers(answers=answers)):
            self.assertIs(Book, book.__class__)
            self.assertEqual(answers, book.answers)
            self.assertEqual((self.book.people, self.book.programs), (book.people, book.programs))
        self.assertEqual((), self.book.with_answers(()).answers)
        self.assertEqual(self.book, self.book.with_answers(self.book.answers))
        self.assertEqual(ANSWERS[::-1], ALL.with_answers(ANSWERS[::-1]).answers)

    def test_refused(self):
        right = ("ann", "three", "cid")
        for index, answers in (
            (None, [right]), (None, None), (None, ""), (None, "ann three cid"), (0, right), (1, (right, right)),
            (0, (list(right),)), (1, (right, ("eve", "two", "ann"))), (1, (right, ("ann", "four", "ann"))),
            (2, (right, self.book.answers[0], None)),
        ):
            self.assert_raises(
                InvalidAnswers, "index", index,
                lambda: self.book.with_answers(answers), lambda: self.book.with_answers(answers=answers),
            )
        nine = tuple([(who, program, whom) for who in ("ann", "bob", "cid") for program in ("two", "three")
                      for whom in ("ann", "bob")])[:9]
        self.assertEqual(nine[:8], self.book.with_answers(nine[:8]).answers)
        self.assert_raises(InvalidAnswers, "index", 8, lambda: self.book.with_answers(nine))
        for value in STRANGE:
            self.assert_raises(InvalidAnswers, "index", 1, lambda: self.book.with_answers((right, value)))
