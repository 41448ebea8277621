import random
import unittest

from quotedthreads.books import Book
from quotedthreads.errors import InvalidMarks, NotABook, UnknownPerson
from quotedthreads.numbers import behind, shortest
from quotedthreads.threads import led
from tests.values import NO_NAMES, STRANGE, Refusing
from tests.walks import OWN, TWO, Walk, by_marks, drawn_book, drawn_books, walks, whole_walks



class Compared(unittest.TestCase):
    """behind and shortest against plain walks along all threads."""

    def assert_thread(self, book, name, standing, least):
        thread = shortest(book, name, *standing)
        self.assertIs(tuple, thread.__class__)
        self.assertEqual((standing, least), (led(book, name, thread)[-1], len(thread)), str(book))

    def assert_as_walked(self, book, name, walk, standing, lengths):
        """The numbers of a walk that ends somewhere: longer threads may lead there, too."""
        told = behind(book, name, *standing)
        if told is None:
            self.assertEqual(([], None), (lengths, shortest(book, name, *standing)), str(book))
            return "never"
        least, greatest = told
        self.assert_thread(book, name, standing, least)
        if not lengths:
            self.assertGreater(least, walk.longest)
            return "later"
        self.assertEqual(lengths[0], least, str(book))
        if greatest is None:
            if walk.longest >= 25:
                # Whatever goes round there does so in a few answers.
                self.assertGreater(lengths[-1], walk.longest - 12, str(book))
            return "ever"
        self.assertLessEqual(lengths[-1], greatest)
        if greatest <= walk.longest:
            self.assertEqual(greatest, lengths[-1], str(book))
        return "greatest"

    def assert_walks(self, draw, book, longest, many):
        kinds = []
        for name, walk in walks(book, longest).items():
            found = walk.lengths()
            standings = sorted(found, key=lambda standing: (by_marks(standing[1]), standing[0]))
            standings = standings[:many] + draw.sample(standings, min(many, len(standings)))
            for _ in range(many):
                marks = "".join([draw.choice(book.signs) for _ in range(draw.randint(0, 3))])
                standings.append((draw.choice(book.names), marks))
            for standing in standings:
                kinds.append(self.assert_as_walked(book, name, walk, standing, found.get(standing, [])))
        return kinds

    def test_books_of_all_sizes(self):
        draw = random.Random(1)
        kinds = []
        for people in range(1, 5):
            for programs in range(1, 5):
                for answers in (0, 1, 2, 4, 8):
                    kinds += self.assert_walks(draw, drawn_book(draw, people, programs, answers), 16, 3)
        for kind in ("never", "ever", "greatest"):
            self.assertGreater(kinds.count(kind), 100)

    def test_programs_that_take_away(self):
        draw = random.Random(2)
        kinds = []
        for book in drawn_books(3, 30, gone=0.03, lengths=(0, 0, 1, 2)):
            kinds += self.assert_walks(draw, book, 40, 4)
        self.assertGreater(kinds.count("ever"), 100)

    def test_all_standings(self):
        """Where there are few standings: longer threads than twice as many go round and round."""
        kinds = []
        for lengths in ((0, 1, 1), (0, 1, 2), (1, 2, 3)):
            for book in drawn_books(4, 80, answers=4, lengths=lengths):
                found = whole_walks(book, 30) or {}
                for name, walk in found.items():
                    many = len(walk.standings())
                    for standing, row in Walk(book, name, 2 * many).lengths().items():
                        greatest = None if row[-1] >= many else row[-1]
                        kinds.append(greatest is None)
                        self.assertEqual((row[0], greatest), behind(book, name, *standing), str(book))
        self.assertGreater(kinds.count(True), 300)
        self.assertGreater(kinds.count(False), 300)

    def test_growing_marks(self):
        """Where all answers put signs ahead and take none away, no thread is longer than the marks."""
        draw = random.Random(5)
        kinds = []
        puts = ("#", ">", "##", "#>", ">#", ">>#", "###", "@", "@#")
        for _ in range(40):
            rows = [f"program {name}\nonly: {draw.choice(puts)}\nelse: {draw.choice(puts)}" for name in "pqr"]
            answers = [f"answer {who} {name} {whom}" for who in "ab" for name in "pqr" for whom in "ab"]
            book = Book.read("\n".join(["person a >", "person b #", *rows, *draw.sample(answers, 5)]))
            for name, walk in walks(book, 7).items():
                for standing, row in walk.lengths().items():
                    if len(standing[1]) <= walk.longest:
                        kinds.append(row[0] == row[-1])
                        self.assertEqual((row[0], row[-1]), behind(book, name, *standing), str(book))
        self.assertGreater(kinds.count(False), 100)
        self.assertGreater(kinds.count(True), 100)


class Behind(unittest.TestCase):
    def assert_behind(self, book, writer, sender, marks, told, thread=None):
        for found in (behind(book, writer, sender, marks),
                      behind(marks=marks, sender=sender, writer=writer, book=book)):
            self.assertEqual(told, found)
            if told is not None:
                self.assertIs(tuple, found.__class__)
        for found in (shortest(book, writer, sender, marks),
                      shortest(marks=marks, sender=sender, writer=writer, book=book)):
            if told is None:
                self.assertIsNone(found)
            else:
                self.assertIs(tuple, found.__class__)
                self.assertEqual(((sender, marks), told[0]), (led(book, writer, found)[-1], len(found)))
                if thread is not None:
                    self.assertEqual(thread, found)

    def test_the_standing_of_the_writer_with_no_marks(self):
        for book in (TWO, OWN, TWO.with_answers(())):
            for name in book.names:
                self.assert_behind(book, name, name, "", (0, 0), ())
        # It comes back to it after two answers, and after four, and so on.
        book = Book.read("person ann >\nperson bob |\nprogram up\nelse: >\nprogram down\nbegin >: none\nelse: gone\n"
                         "answer bob up ann\nanswer ann down bob")
        self.assert_behind(book, "ann", "ann", "", (0, None), ())
        self.assert_behind(book, "ann", "bob", ">", (1, None), (("bob", "up"),))
        self.assert_behind(book, "bob", "bob", "", (0, 0), ())
        self.assert_behind(book, "bob", "ann", "", None)
        book = Book.read("person ann >\nprogram none\nelse: none\nanswer ann none ann")
        self.assert_behind(book, "ann", "ann", "", (0, None), ())

    def test_as_the_document_shows(self):
        self.assert_behind(TWO, "ann", "ann", ">>", (2, None), (("bob", "two"), ("ann", "two")))
        self.assert_behind(TWO, "bob", "ann", ">>", (3, None), (("ann", "two"), ("bob", "two"), ("ann", "two")))
        self.assert_behind(TWO, "ann", "bob", ">", (1, 1), (("bob", "two"),))
        self.assert_behind(TWO, "ann", "ann", ">", None)

    def test_never_reached(self):
        self.assert_behind(TWO, "ann", "ann", ">>>", None)
        self.assert_behind(TWO, "ann", "ann", "|", None)
        self.assert_behind(TWO, "ann", "ann", "#", None)
        self.assert_behind(TWO.with_answers(()), "ann", "bob", "", None)

    def test_growing_marks_tell_the_number(self):
        for many in (1, 2, 3, 50):
            self.assert_behind(OWN, "ann", "ann", "|>" * many, (2 * many, 2 * many))
            self.assert_behind(OWN, "bob", "ann", "|>" * many + "|", (2 * many + 1, 2 * many + 1))
            self.assert_behind(OWN, "ann", "ann", ">|" * many, None)
        self.assert_behind(OWN, "ann", "ann", "|>" * 1000, (2000, 2000))

    def test_several_numbers_of_answers(self):
        # One, two or three signs with an answer.
        book = Book.read("person ann >\nprogram one\nelse: #\nprogram two\nelse: ##\nprogram three\nelse: ###\n"
                         "answer ann one ann\nanswer ann two ann\nanswer ann three ann")
        for many in range(1, 20):
            self.assert_behind(book, "ann", "ann", "#" * many, ((many + 2) // 3, many))
        # Signs that are put and taken away again.
        book = Book.read("person ann >\nperson bob |\nprogram up\nelse: ##\nprogram down\nbegin #: none\nelse: gone\n"
                         "answer bob up ann\nanswer bob down bob")
        self.assert_behind(book, "ann", "bob", "##", (1, 1))
        self.assert_behind(book, "ann", "bob", "#", (2, 2))
        self.assert_behind(book, "ann", "bob", "", (3, 3))
        self.assert_behind(book, "bob", "bob", "", (0, 0))

    def test_the_marks_stay_the_same_while_the_threads_grow(self):
        book = Book.read("person ann >\nperson bob |\nprogram same\nonly: >\nelse: none\n"
                         "answer bob same ann\nanswer bob same bob")
        self.assert_behind(book, "ann", "bob", ">", (1, None), (("bob", "same"),))
        self.assert_behind(book, "bob", "bob", ">", (1, None))
        self.assert_behind(book, "ann", "ann", "", (0, 0))
        # Only behind other marks that stay the same for a while.
        book = Book.read("person a >\nperson b |\nprogram same\nonly: >\nelse: none\n"
                         "program more\nonly: gone\nelse: |\nanswer a same a\nanswer b more a")
        self.assert_behind(book, "a", "b", "|>", (2, None), (("a", "same"), ("b", "more")))
        # The marks grow and shrink between.
        book = Book.read("person a >\nperson b |\nprogram up\nelse: #\nprogram down\nbegin #: none\nelse: gone\n"
                         "answer a up a\nanswer a down a\nanswer b down a")
        for many in range(5):
            self.assert_behind(book, "a", "a", "#" * many, (many, None))
            self.assert_behind(book, "a", "b", "#" * many, (many + 2, None))

    def test_what_stays_is_needed_on_no_way(self):
        # ann's lines that b answers go round; those that c answers do not.
        book = Book.read("person a >\nperson b |\nperson c :\nprogram p\nonly: >\nelse: none\nprogram q\nelse: :\n"
                         "answer b p a\nanswer b p b\nanswer c q a")
        self.assert_behind(book, "a", "b", ">", (1, None))
        self.assert_behind(book, "a", "c", ":", (1, 1))

    def test_many_answers_at_least(self):
        # Each # becomes two *, each * two |, and only |s are taken away: one line with # is needed for all.
        book = Book.read("person a >\nperson b |\nprogram up\nonly: ###\nbegin #: **\nbegin *: |||\nbegin |: none\n"
                         "else: gone\nanswer a up a\nanswer b up a")
        walk = Walk(book, "a", 200, 5000)
        lengths = walk.lengths()
        for standing in (("a", "|"), ("a", ""), ("b", ""), ("b", "*##"), ("a", "**"), ("a", "|*#")):
            self.assertIn(standing, lengths)
            self.assertEqual(lengths[standing][0], behind(book, "a", *standing)[0])
            self.assert_behind(book, "a", *standing, behind(book, "a", *standing))
        self.assertEqual((0, None), behind(book, "a", "a", ""))
        self.assertEqual(28, behind(book, "a", "b", "")[0])


class Refused(Refusing):
    def test_the_book_first(self):
        for function in (behind, shortest):
            for value in [*STRANGE, str(TWO), (TWO,), Book]:
                self.assert_refused(
                    NotABook, value, lambda: function(value, None, None, None),
                    lambda: function(marks="", sender="ann", writer="ann", book=value),
                )

    def test_then_the_people(self):
        for function in (behind, shortest):
            for value in [*STRANGE, *NO_NAMES, "eve", "two", ("ann",)]:
                self.assert_refused(
                    UnknownPerson, value,
                    lambda: function(TWO, value, None, None), lambda: function(TWO, "ann", value, None),
                    lambda: function(TWO, value, "eva", ""), lambda: function(TWO, "ann", value, ""),
                )

    def test_then_the_marks(self):
        for function in (behind, shortest):
            for value in [*STRANGE, "@", "a", " ", "\n", "> >", ">>\n", "none", "_", ">_"]:
                self.assert_refused(InvalidMarks, value, lambda: function(TWO, "ann", "bob", value))
