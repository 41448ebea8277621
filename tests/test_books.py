import unittest

from quotedthreads import books
from quotedthreads.books import Book
from quotedthreads.errors import InvalidAnswers, InvalidPeople, InvalidPrograms, TooManySigns
from quotedthreads.programs import Program
from tests.values import ELSE, NO_NAMES, NO_SIGNS, SIGNS, STRANGE, EqualToAll, many_programs, plain

TWO = Program("two", ((">>", False, ">>"), ELSE))
SIGNED = Program("signed", (("", True, "@"), ("|", False, None), ELSE))
PEOPLE = (("ann", ">"), ("bob", "|"), ("cid", "#"), ("dora", ">"))
PROGRAMS = (TWO, SIGNED, plain("three"), plain("four"))
ANSWERS = (
    ("bob", "two", "ann"), ("ann", "two", "bob"), ("ann", "signed", "bob"), ("ann", "signed", "ann"),
    ("cid", "three", "dora"), ("dora", "four", "cid"), ("dora", "two", "ann"), ("bob", "four", "bob"),
)
ALL = Book(PEOPLE, PROGRAMS, ANSWERS)


def many_books():
    made = [ALL, Book(PEOPLE[:1], PROGRAMS[:1], ()), Book(PEOPLE[:2], PROGRAMS[:1], ())]
    made += [Book(PEOPLE[:2], PROGRAMS[:1], ANSWERS[:k]) for k in (1, 2)]
    made += [Book(PEOPLE[1::-1], PROGRAMS[:1], ANSWERS[:k]) for k in (1, 2)]
    made += [Book(PEOPLE, PROGRAMS, ANSWERS[::-1]), Book(PEOPLE, PROGRAMS[::-1], ANSWERS)]
    made += [Book(PEOPLE, PROGRAMS, ANSWERS[:-1]), Book(PEOPLE, PROGRAMS, ANSWERS[1:])]
    made += [Book(PEOPLE[:1], (program,), ()) for program in many_programs()]
    made += [Book((("ann", sign),), (plain("two"),), ()) for sign in SIGNS]
    made += [Book(PEOPLE[:1], (plain(name),), (("ann", name, "ann"),)) for name in ("two", "ann", "person")]
    return made


class Made(unittest.TestCase):
    def test_by_position_and_by_name(self):
        for book in (
            Book(PEOPLE, PROGRAMS, ANSWERS),
            Book(people=PEOPLE, programs=PROGRAMS, answers=ANSWERS),
            Book(answers=ANSWERS, people=PEOPLE, programs=PROGRAMS),
            Book(PEOPLE, answers=ANSWERS, programs=PROGRAMS),
        ):
            self.assertEqual(PEOPLE, book.people)
            self.assertEqual(PROGRAMS, book.programs)
            self.assertEqual(ANSWERS, book.answers)
            for passed, kept in ((PEOPLE, book.people), (PROGRAMS, book.programs), (ANSWERS, book.answers)):
                self.assertIs(tuple, kept.__class__)
                self.assertEqual([True] * len(passed), [one is other for one, other in zip(passed, kept)])

    def test_one_to_four_people(self):
        for many in range(1, 5):
            book = Book(PEOPLE[:many], PROGRAMS, ())
            self.assertEqual(PEOPLE[:many], book.people)
            self.assertEqual(("ann", "bob", "cid", "dora")[:many], book.names)
            self.assertIs(tuple, book.names.__class__)
            self.assertEqual(f"Book of {many} people", repr(book))

    def test_one_to_four_programs(self):
        for many in range(1, 5):
            self.assertEqual(PROGRAMS[:many], Book(PEOPLE, PROGRAMS[:many], ()).programs)

    def test_no_to_eight_answers(self):
        for many in range(9):
            self.assertEqual(ANSWERS[:many], Book(PEOPLE, PROGRAMS, ANSWERS[:many]).answers)

    def test_names_and_signs_of_people(self):
        for name in ("a", "z9999999", "abcdefgh", "person", "none", "ann"):
            self.assertEqual((name,), Book(((name, ">"),), (TWO,), ()).names)
        for sign in SIGNS:
            book = Book((("ann", sign), ("bob", sign)), (plain("two"),), ())
            self.assertEqual((("ann", sign), ("bob", sign)), book.people)

    def test_people_may_be_called_as_programs_are(self):
        people = (("two", ">"), ("signed", "|"))
        answers = (("two", "two", "two"), ("signed", "two", "two"), ("two", "signed", "signed"))
        book = Book(people, (TWO, SIGNED), answers)
        self.assertEqual((people, answers), (book.people, book.answers))
        self.assertEqual("|", book.own("signed"))
        self.assertEqual(SIGNED, book.program("signed"))

    def test_names_are_those_of_the_people_in_their_order(self):
        self.assertEqual(("bob", "ann"), Book(PEOPLE[1::-1], (TWO,), ()).names)
        self.assertEqual(("z", "b", "a"), Book((("z", ">"), ("b", "#"), ("a", "|")), (TWO,), ()).names)

    def test_text(self):
        self.assertEqual(
            "person ann >\nperson bob |\nperson cid #\nperson dora >\n"
            "program two\nbegin >>: >>\nelse: >\nprogram signed\nonly: @\nbegin |: gone\nelse: >\n"
            "program three\nelse: >\nprogram four\nelse: >\n"
            "answer bob two ann\nanswer ann two bob\nanswer ann signed bob\nanswer ann signed ann\n"
            "answer cid three dora\nanswer dora four cid\nanswer dora two ann\nanswer bob four bob",
            str(ALL),
        )
        book = Book((("ann", ":"),), (Program("p", (("", False, None),)),), ())
        self.assertEqual("person ann :\nprogram p\nelse: gone", str(book))

    def test_the_texts_of_its_programs_are_theirs(self):
        for program in many_programs():
            self.assertEqual(f"person ann >\n{program}", str(Book(PEOPLE[:1], (program,), ())))

    def test_nothing_of_it_can_be_changed(self):
        for name in ("people", "programs", "answers", "names", "signs"):
            with self.assertRaises(AttributeError):
                setattr(ALL, name, ())
        self.assertEqual((PEOPLE, PROGRAMS, ANSWERS), (ALL.people, ALL.programs, ALL.answers))

    def test_the_interface_is_defined_in_its_file(self):
        self.assertEqual("quotedthreads.books", Book.__module__)
        self.assertIs(Book, books.Book)
        for name in (
            "__init__", "read", "people", "programs", "answers", "names", "signs", "own", "program",
            "with_program", "with_signs", "with_answers", "__eq__", "__str__", "__repr__",
        ):
            self.assertIn(name, vars(Book))


class Signs(unittest.TestCase):
    def assert_signs(self, signs, owns, *cases):
        people = tuple([(name, own) for name, own in zip("abcd", owns)])
        book = Book(people, (Program("p", cases),), ())
        self.assertEqual(signs, book.signs)
        self.assertIs(str, book.signs.__class__)

    def test_of_own_signs_begins_and_puts(self):
        self.assert_signs("|", "|", ("", False, ""))
        self.assert_signs("|", "|", ("", False, None))
        self.assert_signs("#|", "|", ("", False, "#"))
        self.assert_signs("#|", "|", ("#", False, None), ("", False, ""))
        self.assert_signs("#|", "|", ("#", True, None), ("", False, ""))
        self.assert_signs("*:|", "|", ("|*", False, ":"), ("", False, ""))
        self.assert_signs("#*+:", "+#", (":", True, "*@+"), ("", False, None))

    def test_an_at_is_none(self):
        self.assert_signs("|", "|", ("", False, "@"))
        self.assert_signs("#|", "|", ("", True, "@#@"), ("", False, "@@@"))

    def test_in_their_order_each_one_once(self):
        self.assert_signs("+:=>", ">=:+", ("", False, ">=:"))
        self.assert_signs("#*+|", "|+*#", ("", False, ""))
        self.assert_signs(">", ">>>>", (">>", False, ">>>"), ("", False, ">"))
        for sign in SIGNS:
            self.assert_signs(sign, sign, ("", False, "@"))

    def test_of_all_programs_and_people(self):
        programs = tuple([Program(name, (("", False, sign),)) for name, sign in zip("pqrs", "|>+#")])
        self.assertEqual("#+>|", Book((("ann", ">"), ("bob", "+")), programs, ()).signs)
        self.assertEqual("#*:>", Book((("a", "#"), ("b", ":"), ("c", ">"), ("d", "*")), (plain("p"),), ()).signs)

    def test_not_those_of_answers_alone(self):
        self.assertEqual(Book(PEOPLE, PROGRAMS, ()).signs, ALL.signs)
        self.assertEqual("#>|", ALL.signs)


class Equal(unittest.TestCase):
    def test_exactly_if_the_texts_are(self):
        made = many_books()
        made += [Book.read(str(book)) for book in made[::3]]
        for one in made:
            for other in made:
                alike = str(one) == str(other)
                self.assertIs(alike, one == other)
                self.assertIs(not alike, one != other)

    def test_made_twice(self):
        programs = tuple([Program(program.name, program.cases) for program in PROGRAMS])
        self.assertTrue(ALL == Book(tuple(list(PEOPLE)), programs, tuple(list(ANSWERS))))
        self.assertFalse(ALL != Book(PEOPLE, programs, ANSWERS))

    def test_no_value_of_another_class(self):
        for value in [*STRANGE, str(ALL), repr(ALL), PEOPLE, (PEOPLE, PROGRAMS, ANSWERS), TWO, EqualToAll()]:
            self.assertIs(False, ALL == value)
            self.assertIs(True, ALL != value)
        self.assertFalse(TWO == Book(PEOPLE, (TWO,), ()))

    def test_in(self):
        self.assertIn(Book(PEOPLE, PROGRAMS, ANSWERS), (None, TWO, ALL))
        self.assertNotIn(Book(PEOPLE, PROGRAMS, ()), (None, TWO, ALL))

    def test_true(self):
        for book in (ALL, Book(PEOPLE[:1], PROGRAMS[:1], ())):
            self.assertIs(True, bool(book))


class Refused(unittest.TestCase):
    def assert_refused(self, error, index, people, programs=PROGRAMS, answers=ANSWERS):
        for call in (
            lambda: Book(people, programs, answers),
            lambda: Book(answers=answers, programs=programs, people=people),
        ):
            with self.assertRaises(error) as caught:
                call()
            self.assertEqual(index, caught.exception.index)
            self.assertIs(index.__class__, caught.exception.index.__class__)

    def assert_people(self, index, people):
        # Answers and programs that are refused, too: the people come first.
        self.assert_refused(InvalidPeople, index, people, PROGRAMS, ())
        self.assert_refused(InvalidPeople, index, people, (), None)

    def assert_programs(self, index, programs):
        self.assert_refused(InvalidPrograms, index, PEOPLE, programs, ())
        self.assert_refused(InvalidPrograms, index, PEOPLE, programs, (None,))

    def assert_answers(self, index, answers):
        self.assert_refused(InvalidAnswers, index, PEOPLE, PROGRAMS, answers)

    def test_no_tuple(self):
        for value in [value for value in STRANGE if not isinstance(value, tuple)]:
            self.assert_people(None, value)
            self.assert_programs(None, value)
            self.assert_answers(None, value)
        self.assert_people(None, list(PEOPLE))
        self.assert_people(None, dict(PEOPLE))
        self.assert_programs(None, list(PROGRAMS))
        self.assert_programs(None, TWO)
        self.assert_answers(None, list(ANSWERS))
        for text in ("", "ann", "two", "answer bob two ann"):
            self.assert_people(None, text)
            self.assert_programs(None, text)
            self.assert_answers(None, text)

    def test_no_people_and_no_programs_but_no_answers_are_right(self):
        self.assert_people(None, ())
        self.assert_programs(None, ())
        self.assertEqual((), Book(PEOPLE, PROGRAMS, ()).answers)

    def test_what_is_no_person(self):
        wrong = [["ann", ">"], (), ("ann",), ("ann", ">", ">"), ("ann", ">", 0), "ann", "a>", (">", "ann")]
        wrong += [{"ann": ">"}, {"ann": 1, ">": 2}, ("ann", (">",)), (("ann",), ">")]
        wrong += [("ann", other) for other in [*NO_SIGNS, *STRANGE]]
        wrong += [(other, ">") for other in [*NO_NAMES, *STRANGE]]
        for value in [*wrong, *STRANGE]:
            self.assert_people(0, (value,))
            self.assert_people(0, (value, *PEOPLE[:2]))
            self.assert_people(1, (PEOPLE[1], value))
            self.assert_people(3, (*PEOPLE[1:], value, value))

    def test_what_is_no_program(self):
        for value in [*STRANGE, str(TWO), "two", TWO.cases, ("two", TWO.cases), [TWO], (TWO,)]:
            self.assert_programs(0, (value,))
            self.assert_programs(0, (value, TWO))
            self.assert_programs(1, (TWO, value))
            self.assert_programs(3, (*PROGRAMS[:3], value, value))

    def test_a_name_that_stands_there_before(self):
        self.assert_people(1, (("ann", ">"), ("ann", ">")))
        self.assert_people(1, (("ann", ">"), ("ann", "|"), ("bob", "@")))
        self.assert_people(3, (*PEOPLE[:3], ("bob", "|")))
        self.assert_people(2, (*PEOPLE[:2], ("ann", ">"), ("bob", ">")))
        self.assert_programs(1, (TWO, TWO))
        self.assert_programs(1, (TWO, plain("two")))
        self.assert_programs(3, (*PROGRAMS[:3], plain("signed")))
        self.assert_programs(2, (TWO, SIGNED, TWO, SIGNED))

    def test_a_fifth_one(self):
        self.assert_people(4, (*PEOPLE, ("eve", ">")))
        self.assert_people(4, (*PEOPLE, ("ann", ">")))
        self.assert_people(4, (*PEOPLE, None, None))
        self.assert_people(3, (*PEOPLE[:3], None, ("eve", ">")))
        self.assert_people(1, (("ann", ">"),) * 9)
        self.assert_programs(4, (*PROGRAMS, plain("five")))
        self.assert_programs(4, (*PROGRAMS, TWO))
        self.assert_programs(4, (*PROGRAMS, None, None))
        self.assert_programs(1, (TWO,) * 9)

    def test_the_first_wrong_one_is_told(self):
        self.assert_people(1, (("ann", ">"), ("bob", "@"), ("ann", ">")))
        self.assert_people(1, (("ann", ">"), ("ann", ">"), None))
        self.assert_programs(1, (TWO, None, TWO))
        self.assert_programs(1, (TWO, TWO, None))
        self.assert_answers(1, (ANSWERS[0], ANSWERS[0], None))
        self.assert_answers(1, (ANSWERS[0], None, ANSWERS[0]))

    def test_what_is_no_answer(self):
        wrong = [
            list(ANSWERS[0]), (), ("bob",), ("bob", "two"), ("bob", "two", "ann", "ann"), "bob two ann",
            ("bob", TWO, "ann"), ("two", "bob", "ann"), ("bob", "ann", "two"), ("eve", "two", "ann"),
            ("bob", "five", "ann"), ("bob", "two", "eve"), ("bob", "two", ""), ("", "two", "ann"),
            ("bob", "", "ann"), ("bob", "bob", "ann"), ("two", "two", "two"), (("bob", "two", "ann"),),
            ("bob", ("two",), "ann"), "ann", "bta", {"bob": 1, "two": 2, "ann": 3},
            ("Bob", "two", "ann"), ("bob ", "two", "ann"), ("ann bob", "two", "ann"), ("bo", "two", "ann"),
        ]
        for value in STRANGE:
            wrong += [(value, "two", "ann"), ("bob", value, "ann"), ("bob", "two", value), (value, value, value)]
        for value in [*wrong, *STRANGE]:
            self.assert_answers(0, (value,))
            self.assert_answers(0, (value, ANSWERS[0]))
            self.assert_answers(1, (ANSWERS[0], value))
            self.assert_answers(7, (*ANSWERS[:7], value, value))

    def test_people_and_programs_that_are_not_in_this_book(self):
        self.assert_refused(InvalidAnswers, 4, PEOPLE[:2], PROGRAMS, ANSWERS)
        self.assert_refused(InvalidAnswers, 2, PEOPLE, PROGRAMS[:1], ANSWERS)
        self.assert_refused(InvalidAnswers, 0, PEOPLE[:1], PROGRAMS, ANSWERS)

    def test_an_answer_that_stands_there_before(self):
        self.assert_answers(1, (ANSWERS[0], ANSWERS[0]))
        self.assert_answers(7, (*ANSWERS[:7], ANSWERS[3]))
        self.assert_answers(2, (*ANSWERS[:2], tuple(list(ANSWERS[0])), None))

    def test_a_ninth_answer(self):
        self.assert_answers(8, (*ANSWERS, ("ann", "two", "ann")))
        self.assert_answers(8, (*ANSWERS, ANSWERS[0]))
        self.assert_answers(8, (*ANSWERS, None, None))
        self.assert_answers(7, (*ANSWERS[:7], None, ANSWERS[7]))
        self.assert_answers(1, (ANSWERS[0],) * 30)

    def test_the_people_then_the_programs_then_the_answers_then_the_signs(self):
        people = tuple(zip("abcd", "#*+:"))
        self.assert_refused(InvalidPeople, 1, (PEOPLE[0], None), (None,), (None,))
        self.assert_refused(InvalidPrograms, 1, people, (TWO, None), (None,))
        self.assert_refused(InvalidAnswers, 0, people, (TWO,), (None,))
        self.assert_refused(InvalidAnswers, None, people, (TWO,), [])
        with self.assertRaises(TooManySigns):
            Book(people, (TWO,), ())

    def test_too_many_signs(self):
        people = tuple(zip("abcd", "#*+:"))
        self.assertEqual("#*+:", Book(people, (Program("p", (("", False, "@:"),)),), ()).signs)
        for many, programs in (
            (5, (TWO,)),
            (5, (Program("p", ((">", True, None), ("", False, None))),)),
            (5, (Program("p", (("#>", False, ""), ("", False, ""))),)),
            (5, (Program("p", (("", False, "@>@"),)),)),
            (6, (Program("p", (("=", False, ">"), ("", False, "@"))),)),
            (7, (Program("p", (("=>", False, "||"), ("", False, "@"))),)),
            (7, tuple([Program(name, (("", False, sign),)) for name, sign in zip("pqr", "|=>")])),
        ):
            for answers in ((), (("a", programs[0].name, "b"),)):
                with self.assertRaises(TooManySigns) as caught:
                    Book(people, programs, answers)
                self.assertEqual(many, caught.exception.many)
                self.assertIs(int, caught.exception.many.__class__)
        with self.assertRaises(TooManySigns) as caught:
            Book((("a", "#"),), (Program("p", (("*+", False, ":=>"), ("", False, "|"))),), ())
        self.assertEqual(7, caught.exception.many)

    def test_nothing_that_is_passed_is_changed(self):
        person, answer = ["bob", "|"], ["bob", "two", "ann"]
        people, programs, answers = [PEOPLE[0], person], [TWO], [answer]
        self.assert_people(None, people)
        self.assert_people(1, (PEOPLE[0], person))
        self.assert_programs(None, programs)
        self.assert_answers(None, answers)
        self.assert_answers(0, (answer,))
        self.assertEqual(([PEOPLE[0], ["bob", "|"]], [TWO]), (people, programs))
        self.assertEqual([["bob", "two", "ann"]], answers)
