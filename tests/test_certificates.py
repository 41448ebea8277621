import random
import unittest

from quotedthreads import certificates
from quotedthreads.books import Book
from quotedthreads.certificates import (
    certify_can,
    certify_confused,
    certify_gone,
    certify_kept,
    certify_never,
    certify_within,
)
from quotedthreads.checker import accepts
from quotedthreads.errors import InvalidCount, InvalidMarks, NotABook, UnknownPerson
from quotedthreads.numbers import gone_after, longest
from quotedthreads.telling import confusion, reaches
from tests.values import NO_NAMES, STRANGE, Refusing, marks_up_to
from tests.walks import TWO, drawn_book, drawn_books

TEXT = str(TWO)
FUNCTIONS = (certify_can, certify_never, certify_confused, certify_gone, certify_kept, certify_within)


class CertificateTests(unittest.TestCase):
    def assert_certified(self, holds, claim, pair):
        """There is a pair of this claim and an accepted certificate exactly if the claim holds."""
        if not holds:
            self.assertIsNone(pair, claim)
            return
        self.assertIs(tuple, pair.__class__)
        self.assertEqual((2, claim, tuple), (len(pair), pair[0], pair[0].__class__))
        self.assertIs(True, accepts(*pair), pair)

    def assert_standing(self, book, writer, sender, marks):
        holds = reaches(book, writer, sender, marks)
        rest = (str(book), writer, sender, marks)
        self.assert_certified(holds, ("can", *rest), certify_can(book, writer, sender, marks))
        self.assert_certified(not holds, ("never", *rest), certify_never(book, writer, sender, marks))

    def assert_writer(self, book, writer, counts):
        kept = gone_after(book, writer) is None
        self.assert_certified(kept, ("kept", str(book), writer), certify_kept(book, writer))
        self.assert_certified(not kept, ("gone", str(book), writer), certify_gone(book, writer))
        most = longest(book, writer)
        for many in counts:
            holds = most is not None and most <= many
            self.assert_certified(holds, ("within", str(book), writer, many), certify_within(book, writer, many))

    def assert_confused(self, book):
        told = confusion(book)
        claim = told and ("confused", str(book), told[1], told[0], told[2], told[3])
        self.assert_certified(told is not None, claim, certify_confused(book))


class Drawn(CertificateTests):
    def test_books_of_all_sizes(self):
        draw = random.Random(1)
        for people in range(1, 5):
            for programs in range(1, 5):
                for answers in (0, 1, 2, 3, 5, 8):
                    book = drawn_book(draw, people, programs, answers)
                    self.assert_confused(book)
                    for writer in book.names:
                        self.assert_writer(book, writer, (0, 1, 2, 4, 20))
                        for _ in range(4):
                            marks = "".join([draw.choice(book.signs) for _ in range(draw.randint(0, 4))])
                            self.assert_standing(book, writer, draw.choice(book.names), marks)

    def test_programs_that_take_away(self):
        for book in drawn_books(2, 40, people=3, answers=6, gone=0.03, lengths=(0, 0, 1, 2)):
            self.assert_confused(book)
            for writer in book.names:
                self.assert_writer(book, writer, (0, 3))
                for marks in ("", *book.signs, "".join(book.signs)):
                    self.assert_standing(book, writer, book.names[0], marks)

    def test_all_counts_and_short_marks(self):
        for book in drawn_books(3, 4, people=2, answers=4, lengths=(0, 1, 2)):
            for writer in book.names:
                self.assert_writer(book, writer, range(21))
                for marks in marks_up_to(2):
                    self.assert_standing(book, writer, book.names[-1], marks)


class Made(CertificateTests):
    def test_can(self):
        for sender, marks, thread in (("ann", "", ()), ("bob", ">", (("bob", "two"),)),
                                      ("ann", ">>", (("bob", "two"), ("ann", "two")))):
            wanted = (("can", TEXT, "ann", sender, marks), thread)
            for pair in (certify_can(TWO, "ann", sender, marks),
                         certify_can(marks=marks, sender=sender, writer="ann", book=TWO)):
                self.assertEqual(wanted, pair)
        self.assertIsNone(certify_can(TWO, "ann", "ann", ">"))

    def test_never(self):
        for pair in (certify_never(TWO, "ann", "ann", ">"),
                     certify_never(marks=">", sender="ann", writer="ann", book=TWO)):
            self.assert_certified(True, ("never", TEXT, "ann", "ann", ">"), pair)
        self.assertIsNone(certify_never(TWO, "ann", "ann", ">>"))
        self.assert_standing(TWO, "ann", "bob", "#" * 100)

    def test_confused(self):
        threads = ((("bob", "two"), ("ann", "two")), (("ann", "two"), ("bob", "two"), ("ann", "two")))
        for pair in (certify_confused(TWO), certify_confused(book=TWO)):
            self.assertEqual((("confused", TEXT, "ann", ">>", "ann", "bob"), threads), pair)
        self.assertIsNone(certify_confused(TWO.with_answers(())))

    def test_gone_and_kept(self):
        book = Book.read("person a >\nperson b |\nprogram p\nbegin >>: gone\nelse: >\nanswer b p a\nanswer a p b")
        for pair in (certify_gone(book, "a"), certify_gone(writer="a", book=book)):
            self.assertEqual((("gone", str(book), "a"), (("b", "p"), ("a", "p"), ("b", "p"))), pair)
        self.assertIsNone(certify_kept(book, "a"))
        self.assertIsNone(certify_gone(TWO, "ann"))
        for pair in (certify_kept(TWO, "ann"), certify_kept(writer="ann", book=TWO)):
            self.assert_certified(True, ("kept", TEXT, "ann"), pair)

    def test_within(self):
        for many in range(21):
            for pair in (certify_within(TWO, "ann", many), certify_within(many=many, writer="ann", book=TWO)):
                self.assert_certified(many >= 2, ("within", TEXT, "ann", many), pair)
        self.assert_writer(TWO.with_answers(()), "bob", (0, 1, 20))

    def test_machines_have_only_what_they_may(self):
        for book in drawn_books(5, 40):
            for writer in book.names:
                pair = certify_never(book, writer, writer, "#" * 30)
                if pair is not None:
                    self.assertIs(tuple, pair[1].__class__)
                    for start, sign, goal in pair[1]:
                        self.assertIn(sign, ("", "_", *book.signs))
                        for node in (start, goal):
                            self.assertIn(node.__class__, (int, str))
                            self.assertTrue(isinstance(node, int) or node in book.names)

    def test_long_threads(self):
        book = Book.read("person a #\nperson b #\nprogram up\nonly: ###\nbegin #: **\nbegin *: |||\nbegin |: none\n"
                         "else: gone\nprogram last\nonly |: gone\nelse: none\nanswer a up a\nanswer b last a")
        claim, thread = certify_gone(book, "a")
        self.assertEqual(28, len(thread))
        self.assertIs(True, accepts(claim, thread))
        self.assertIs(False, accepts(claim, thread[:-1]))
        self.assert_writer(book, "a", range(21))


class Refused(Refusing):
    def test_the_book_first(self):
        for value in [*STRANGE, TEXT, (TWO,), Book]:
            self.assert_refused(
                NotABook, value,
                lambda: certify_can(value, None, None, None), lambda: certify_never(value, None, None, None),
                lambda: certify_confused(value), lambda: certify_gone(value, None), lambda: certify_kept(value, None),
                lambda: certify_within(value, None, None), lambda: certify_within(many=1, writer="ann", book=value),
            )

    def test_then_the_people(self):
        for value in [*STRANGE, *NO_NAMES, "eve", "two", ("ann",), TWO]:
            self.assert_refused(
                UnknownPerson, value,
                lambda: certify_can(TWO, value, None, None), lambda: certify_can(TWO, "ann", value, None),
                lambda: certify_never(TWO, value, None, None), lambda: certify_never(TWO, "ann", value, None),
                lambda: certify_gone(TWO, value), lambda: certify_kept(TWO, value),
                lambda: certify_within(TWO, value, None), lambda: certify_within(TWO, value, 21),
            )

    def test_then_the_marks_or_the_count(self):
        for value in [*STRANGE, "@", "a", " ", "\n", "> >", "none", "_", ">_"]:
            self.assert_refused(
                InvalidMarks, value,
                lambda: certify_can(TWO, "ann", "bob", value), lambda: certify_never(TWO, "ann", "bob", value),
            )
        for value in [*[value for value in STRANGE if value.__class__ is not int], -1, 21, True, False, 10 ** 39, "1"]:
            self.assert_refused(InvalidCount, value, lambda: certify_within(TWO, "ann", value))

    def test_nothing_is_changed_and_equal_calls_return_equal_results(self):
        for call in (lambda: certify_can(TWO, "ann", "ann", ">>"), lambda: certify_never(TWO, "ann", "ann", ">"),
                     lambda: certify_confused(TWO), lambda: certify_gone(TWO, "ann"), lambda: certify_kept(TWO, "ann"),
                     lambda: certify_within(TWO, "ann", 5), lambda: certify_kept(Book.read(TEXT), "bob")):
            self.assertEqual([call()] * 3, [call() for _ in range(3)])
        self.assertEqual(TEXT, str(TWO))

    def test_the_interface_is_defined_in_its_file(self):
        for function in FUNCTIONS:
            self.assertEqual("quotedthreads.certificates", function.__module__)
            self.assertIs(function, getattr(certificates, function.__name__))
