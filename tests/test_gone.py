import random
import unittest

from quotedthreads import numbers
from quotedthreads.books import Book
from quotedthreads.errors import InvalidCount, InvalidThread, NotABook, UnknownPerson, UnknownProgram
from quotedthreads.numbers import behind, gone, gone_after, idle_cases, longer, longest, shortest
from quotedthreads.threads import led
from tests.values import NO_NAMES, STRANGE, Refusing
from tests.walks import OWN, TWO, Whole, drawn_book, drawn_books, walks, whole_walks

# It takes many answers until a line is gone, or is treated by some of the cases.
LONG = Book.read("""person ann |
person bob >
program p
begin ||: |>>
only |: ||*
begin |*: gone
only >: |@>
else: none
program q
begin |>: |
begin **: >
begin >>: |||
begin >: *>|
else: *
answer ann q bob
answer bob p ann""")
# The shortest threads by which lines are gone have thousands of answers.
LONGEST = Book.read("""person ann >
person bob >
person cid |
person dora +
program p
begin |:: :|>
begin +: >+|
begin ::: gone
only: none
else: none
program q
begin :: >||
begin >>: >::
begin |>: :|+
begin >+: none
else: none
program r
begin |+: >
begin >>: :|+
begin ||: @:|
begin |+: +|
else: none
program s
begin >:: +:+
begin |: :>:
begin :: +|@
only: >
else: @@
answer ann s bob
answer cid r dora
answer ann q cid
answer dora r bob
answer cid q ann
answer ann s dora
answer bob r cid
answer bob p dora""")


class Compared(unittest.TestCase):
    """All of them against plain walks along all threads."""

    def assert_gone(self, book, name, walk):
        """Tells whether it took the walk no longer than it went."""
        least, thread = gone_after(book, name), gone(book, name)
        if least is None:
            self.assertEqual((None, None), (thread, walk.gone), str(book))
            return False
        self.assertIs(tuple, thread.__class__)
        standings = led(book, name, thread)
        self.assertEqual((least, least + 1), (len(thread), len(standings)))
        self.assertEqual([least], [index for index, standing in enumerate(standings) if standing is None])
        if walk.gone is None:
            self.assertGreater(least, walk.longest)
        else:
            self.assertEqual(walk.gone, least, str(book))
        return True

    def assert_longest(self, book, name, walk, counts):
        most = longest(book, name)
        if most is not None:
            self.assertLessEqual(walk.most_signs(), most, str(book))
        for many in counts:
            thread = longer(book, name, many)
            if most is not None and most <= many:
                self.assertIsNone(thread, str(book))
            else:
                self.assertIs(tuple, thread.__class__, str(book))
                self.assertGreater(len(led(book, name, thread)[-1][1]), many)
        return most

    def assert_idle(self, book, found):
        """Tells all idle cases. A case that is not idle is met by a line, and only then it is not."""
        met = {case for walk in found.values() for case in walk.met}
        told = []
        for program in book.programs:
            idle = idle_cases(book, program.name)
            self.assertIs(tuple, idle.__class__)
            self.assertEqual(sorted(set(idle)), list(idle))
            self.assertLessEqual(set(idle), set(range(len(program.cases))))
            self.assertEqual([], [index for index in idle if (program.name, index) in met], str(book))
            told += [(program.name, index) for index in idle]
        return told

    def test_books_of_all_sizes(self):
        draw = random.Random(1)
        left, most = [], []
        for people in range(1, 5):
            for programs in range(1, 5):
                for answers in (0, 1, 2, 4, 6, 8):
                    book = drawn_book(draw, people, programs, answers)
                    found = walks(book, 12)
                    for name, walk in found.items():
                        left.append(self.assert_gone(book, name, walk))
                        most.append(self.assert_longest(book, name, walk, (0, 1, 2, 5, 20)))
                    self.assert_idle(book, found)
        self.assertGreater(left.count(False), 20)
        self.assertGreater(left.count(True), 20)
        self.assertGreater(most.count(None), 20)
        self.assertGreater(len(most) - most.count(None), 20)

    def test_all_standings(self):
        """Books of which all standings can be looked at: nothing more and nothing less is told."""
        looked = 0
        for lengths in ((0, 0, 1), (0, 1, 2), (0, 1, 2, 3)):
            for book in drawn_books(2, 80, lengths=lengths):
                found = whole_walks(book)
                if found is not None:
                    looked += 1
                    for name, walk in found.items():
                        self.assertEqual(walk.gone, gone_after(book, name), str(book))
                        self.assertEqual(walk.most_signs(), longest(book, name), str(book))
                    met = {case for walk in found.values() for case in walk.met}
                    all_cases = [(program.name, index) for program in book.programs
                                 for index in range(len(program.cases))]
                    self.assertEqual([case for case in all_cases if case not in met], self.assert_idle(book, found))
        self.assertGreater(looked, 100)

    def test_all_counts(self):
        for book in drawn_books(3, 15, people=2, answers=4):
            for name, walk in walks(book, 10).items():
                self.assert_longest(book, name, walk, range(21))

    def test_long_threads(self):
        found = {name: Whole(LONG, name, 5000) for name in LONG.names}
        self.assertTrue(all([walk.whole for walk in found.values()]))
        for name, walk in found.items():
            self.assertTrue(self.assert_gone(LONG, name, walk))
            self.assertEqual(walk.most_signs(), self.assert_longest(LONG, name, walk, range(21)))
        self.assertEqual(77, gone_after(LONG, "ann"))
        self.assertEqual([], self.assert_idle(LONG, found))

    def test_very_long_threads(self):
        for name, many in (("ann", 4461), ("bob", 4459), ("cid", 4460), ("dora", 4459)):
            thread = gone(LONGEST, name)
            self.assertEqual((many, many), (gone_after(LONGEST, name), len(thread)))
            standings = led(LONGEST, name, thread)
            self.assertEqual([many], [index for index, standing in enumerate(standings) if standing is None])


class Gone(unittest.TestCase):
    def assert_gone(self, book, writer, number, *threads):
        for found in (gone_after(book, writer), gone_after(writer=writer, book=book)):
            self.assertEqual(number, found)
        for found in (gone(book, writer), gone(writer=writer, book=book)):
            if number is None:
                self.assertIsNone(found)
            else:
                self.assertIn(found, threads)
                self.assertIs(tuple, found.__class__)
                self.assertEqual((None, number + 1), (led(book, writer, found)[-1], len(led(book, writer, found))))
                with self.assertRaises(InvalidThread):
                    led(book, writer, (*found, found[0]))

    def test_never(self):
        for book in (TWO, OWN, TWO.with_answers(())):
            for name in book.names:
                self.assert_gone(book, name, None)
        # There is a case that leaves lines out, but no line meets it, or no answer uses the program.
        book = Book.read("person a >\nperson b |\nprogram p\nbegin >>: gone\nelse: @\nprogram q\nelse: gone\n"
                         "answer b p a\nanswer a p b")
        self.assert_gone(book, "a", None)
        self.assert_gone(book, "b", None)

    def test_by_the_first_answer(self):
        book = Book.read("person a >\nperson b |\nprogram p\nelse: gone\nanswer b p a\nanswer a p a")
        self.assert_gone(book, "a", 1, (("b", "p"),), (("a", "p"),))
        self.assert_gone(book, "b", None)

    def test_by_a_later_one(self):
        book = Book.read("person a >\nperson b |\nprogram p\nbegin >>: gone\nelse: >\nanswer b p a\nanswer a p b")
        self.assert_gone(book, "a", 3, (("b", "p"), ("a", "p"), ("b", "p")))
        self.assert_gone(book, "b", 3, (("a", "p"), ("b", "p"), ("a", "p")))
        self.assert_gone(book.with_answers(book.answers[:1]), "a", None)
        # The answer that leaves it out is of another program than those ahead of it.
        book = Book.read("person a >\nperson b |\nprogram p\nelse: @\nprogram q\nonly |: gone\nbegin |>: gone\n"
                         "else: none\nanswer b p a\nanswer a p b\nanswer b q a")
        self.assert_gone(book, "b", 2, (("a", "p"), ("b", "q")))
        self.assert_gone(book, "a", 3, (("b", "p"), ("a", "p"), ("b", "q")))

    def test_cases_of_each_kind_leave_out(self):
        text = "person a >\nperson b |\nprogram p\n{}: gone\nelse: >\nanswer a p a\nanswer b p a"
        for head, number in (("only", 1), ("only >", 2), ("begin >", 2), ("begin >>", 3), ("only |", None),
                             ("begin ||", None), ("begin |", None)):
            book = Book.read(text.format(head))
            found = gone(book, "a")
            self.assertEqual(number, gone_after(book, "a"))
            self.assertEqual(number, None if found is None else len(found))

    def test_the_line_has_to_be_alive_until_then(self):
        # Marks of three signs are left out, but all with two are left out, too.
        book = Book.read("person a >\nprogram p\nbegin >>: gone\nelse: >\nprogram q\nbegin >>: >>\nelse: gone\n"
                         "answer a p a")
        self.assert_gone(book, "a", 3, (("a", "p"),) * 3)
        self.assert_gone(book.with_answers((("a", "q", "a"),)), "a", 1, (("a", "q"),))


class Longest(unittest.TestCase):
    def assert_longest(self, book, writer, most):
        for found in (longest(book, writer), longest(writer=writer, book=book)):
            self.assertEqual(most, found)
        for many in range(21):
            for thread in (longer(book, writer, many), longer(many=many, writer=writer, book=book)):
                if most is not None and most <= many:
                    self.assertIsNone(thread)
                else:
                    self.assertIs(tuple, thread.__class__)
                    self.assertGreater(len(led(book, writer, thread)[-1][1]), many)

    def test_marks_that_stay_short(self):
        self.assert_longest(TWO, "ann", 2)
        self.assert_longest(TWO, "bob", 2)
        self.assert_longest(TWO.with_answers(TWO.answers[:1]), "ann", 1)
        self.assert_longest(TWO.with_answers(TWO.answers[:1]), "bob", 0)
        self.assert_longest(TWO.with_answers(()), "ann", 0)

    def test_marks_that_grow(self):
        self.assert_longest(OWN, "ann", None)
        self.assert_longest(OWN, "bob", None)
        self.assert_longest(OWN.with_answers(OWN.answers[:1]), "ann", 1)

    def test_marks_of_one_writer_grow(self):
        book = Book.read("person a >\nperson b |\nprogram p\nonly: none\nelse: @@\nprogram q\nelse: |\n"
                         "answer b p a\nanswer b p b\nanswer b q a")
        self.assert_longest(book, "a", None)
        self.assert_longest(book, "b", 0)

    def test_marks_that_shrink_again(self):
        # Three signs, with which nothing but taking away is done.
        book = Book.read("person a >\nprogram p\nonly: ###\nbegin #: none\nelse: gone\nanswer a p a")
        self.assert_longest(book, "a", 3)
        book = Book.read("person a >\nprogram p\nonly: ###\nbegin ##: +#+\nbegin +#: none\nelse: gone\nanswer a p a")
        self.assert_longest(book, "a", 4)

    def test_lines_that_are_gone_get_no_longer(self):
        book = Book.read("person a >\nprogram p\nbegin >>: gone\nelse: >\nanswer a p a")
        self.assert_longest(book, "a", 2)

    def test_many_signs(self):
        rows = ["only: ###", "begin #: +++", "begin +: ===", "begin =: gone", "else: gone"]
        book = Book.read("\n".join(["person a =", "program p", *rows, "answer a p a"]))
        self.assert_longest(book, "a", 7)
        # A sign more each time that the two ahead of it are exchanged: there are 21 and more.
        book = Book.read("person a >\nperson b >\nprogram up\nelse: >\nprogram cut\nbegin >>: >\nelse: gone\n"
                         "answer a up b\nanswer b up a\nanswer a cut b")
        self.assert_longest(book, "a", None)
        self.assertEqual((("b", "up"), ("a", "up")), longer(book, "a", 1))
        self.assertEqual(21, len(longer(book, "a", 20)))


class IdleCases(unittest.TestCase):
    def assert_idle(self, book, program, *indexes):
        for found in (idle_cases(book, program), idle_cases(program=program, book=book)):
            self.assertEqual(indexes, found)
            self.assertIs(tuple, found.__class__)

    def test_cases_that_lines_meet(self):
        self.assert_idle(TWO, "two")
        self.assert_idle(OWN, "own")

    def test_programs_that_no_answer_uses(self):
        book = Book.read("person a >\nprogram p\nelse: >\nprogram q\nonly: >\nbegin >: >\nbegin >>: >\nelse: |\n"
                         "answer a p a")
        self.assert_idle(book, "q", 0, 1, 2, 3)
        self.assert_idle(book, "p")
        self.assert_idle(book.with_answers(()), "p", 0)

    def test_cases_behind_those_that_fit_the_same_marks(self):
        book = Book.read("person a >\nprogram p\nbegin >: >\nbegin >>: gone\nonly >: >\nonly: >\nelse: |\n"
                         "answer a p a")
        self.assert_idle(book, "p", 1, 2, 4)

    def test_cases_that_only_some_people_bring_lines_to(self):
        book = Book.read("person a >\nperson b |\nprogram p\nonly: @\nonly >: @\nonly |: gone\nbegin >>: >\nelse: >\n"
                         "answer b p a\nanswer b p b")
        self.assert_idle(book, "p", 3, 4)
        self.assert_idle(book.with_answers(book.answers[:1]), "p", 1, 2, 3, 4)
        self.assert_idle(book.with_answers(book.answers[1:]), "p", 1, 3, 4)

    def test_a_case_that_leaves_lines_out_is_met(self):
        book = Book.read("person a >\nprogram p\nonly: gone\nonly >: gone\nelse: gone\nanswer a p a")
        self.assert_idle(book, "p", 1, 2)

    def test_a_case_that_lines_meet_in_long_threads(self):
        # Three # become six *, and these eighteen |: only the 28th answer meets a line with the last | alone.
        book = Book.read("person a #\nperson b #\nprogram up\nonly: ###\nbegin #: **\nbegin *: |||\nbegin |: none\n"
                         "else: gone\nprogram last\nonly |: gone\nelse: none\nanswer a up a\nanswer b last a")
        self.assert_idle(book, "up", 4)
        self.assert_idle(book, "last")
        self.assertEqual(28, gone_after(book, "a"))
        self.assert_idle(LONG, "p")
        self.assert_idle(LONG, "q")
        self.assert_idle(LONGEST, "p")
        self.assert_idle(LONGEST, "r", 3)


class Refused(Refusing):
    def test_the_book_first(self):
        for value in [*STRANGE, str(TWO), (TWO,), Book]:
            self.assert_refused(
                NotABook, value,
                lambda: gone_after(value, None), lambda: gone(value, None), lambda: longest(value, None),
                lambda: longer(value, None, None), lambda: idle_cases(value, None),
                lambda: gone_after(writer="ann", book=value), lambda: gone(writer="ann", book=value),
                lambda: longest(writer="ann", book=value), lambda: longer(many=2, writer="ann", book=value),
                lambda: idle_cases(program="two", book=value),
            )

    def test_then_the_writer(self):
        for value in [*STRANGE, *NO_NAMES, "eve", "two", ("ann",), TWO]:
            self.assert_refused(
                UnknownPerson, value,
                lambda: gone_after(TWO, value), lambda: gone(TWO, value), lambda: longest(TWO, value),
                lambda: longer(TWO, value, None), lambda: longer(many=0, writer=value, book=TWO),
            )

    def test_then_the_count(self):
        for value in [value for value in STRANGE if value.__class__ is not int or not 0 <= value <= 20]:
            self.assert_refused(InvalidCount, value, lambda: longer(TWO, "ann", value))
        for value in (True, False, -1, 21, 100, 10 ** 39, "2", (2,), [2], b"2", None):
            self.assert_refused(
                InvalidCount, value, lambda: longer(OWN, "ann", value),
                lambda: longer(many=value, writer="ann", book=OWN),
            )

    def test_the_program(self):
        for value in [*STRANGE, *NO_NAMES, "ann", "five", ("two",), TWO.programs[0], str(TWO.programs[0])]:
            self.assert_refused(
                UnknownProgram, value, lambda: idle_cases(TWO, value), lambda: idle_cases(program=value, book=TWO),
            )

    def test_nothing_is_changed_and_equal_calls_return_equal_results(self):
        texts = (str(TWO), str(LONG))
        for call in (lambda: gone(LONG, "ann"), lambda: longer(OWN, "ann", 9),
                     lambda: shortest(TWO, "ann", "bob", ">>"),
                     lambda: behind(TWO, "ann", "bob", ">>"), lambda: longest(TWO, "ann"),
                     lambda: idle_cases(LONG, "p"), lambda: gone_after(LONG, "bob")):
            self.assertEqual([call()] * 3, [call() for _ in range(3)])
        self.assertEqual(texts, (str(TWO), str(LONG)))
        # Equal books, not only the same one.
        for call in (lambda: gone(Book.read(str(LONG)), "ann"), lambda: longer(Book.read(str(LONG)), "ann", 2)):
            self.assertEqual(call(), call())

    def test_the_interface_is_defined_in_its_file(self):
        for function in (behind, shortest, gone_after, gone, longest, longer, idle_cases):
            self.assertEqual("quotedthreads.numbers", function.__module__)
            self.assertIs(function, getattr(numbers, function.__name__))
