import random
import unittest

from quotedthreads import telling
from quotedthreads.books import Book
from quotedthreads.errors import InvalidMarks, NotABook, UnknownPerson
from quotedthreads.numbers import shortest
from quotedthreads.telling import can_be, can_be_anywhere, clear, confused, confusion, reaches
from quotedthreads.threads import led
from tests.values import NO_NAMES, SIGNS, STRANGE, Refusing, marks_up_to
from tests.walks import TWO, by_marks, drawn_book, drawn_books, walks, whole_walks

# cid's lines only get to him, and nobody answers dora.
FOUR = Book.read("""person bob |
person ann >
person dora #
person cid :
program plain
else: >
program sign
only: @
else: >
program pops
begin >>: none
begin |: gone
else: ||
answer ann sign bob
answer bob plain ann
answer cid plain cid
answer cid pops cid
answer ann pops bob""")
NO_MARKS = ["@", "a", " ", "\n", "> >", ">>\n", ">a", "none", "_", ">_", "#*+:=>|_"]


class Compared(unittest.TestCase):
    """can_be and the others against plain walks along all threads."""

    def assert_told(self, book, sender, marks, found):
        """Everybody who was found is told, and for everybody else who is told there is a thread."""
        told = can_be(book, sender, marks)
        self.assertEqual(tuple([name for name in book.names if name in told]), told)
        for name in book.names:
            if name not in told:
                self.assertNotIn(name, found, (str(book), sender, marks))
            elif name not in found:
                thread = shortest(book, name, sender, marks)
                self.assertEqual((sender, marks), led(book, name, thread)[-1], str(book))
        return told

    def assert_as_walked(self, book, draw, longest, many):
        found = {}
        for name, walk in walks(book, longest).items():
            for standing in walk.lengths():
                found.setdefault(standing, []).append(name)
        standings = sorted(found, key=lambda standing: (by_marks(standing[1]), standing[0]))
        standings = standings[:many] + draw.sample(standings, min(many, len(standings)))
        standings += [(draw.choice(book.names), draw.choice(SIGNS) * length) for length in range(4)]
        for _ in range(many):
            marks = "".join([draw.choice(book.signs) for _ in range(draw.randint(0, 4))])
            standings.append((draw.choice(book.names), marks))
        for sender, marks in standings:
            self.assert_told(book, sender, marks, found.get((sender, marks), ()))
        sender, marks = draw.choice(standings)
        told = [can_be(book, name, marks) for name in book.names]
        anywhere = tuple([name for name in book.names if any([name in names for names in told])])
        self.assertEqual(anywhere, can_be_anywhere(book, marks))
        for name in book.names:
            self.assertIs(name in can_be(book, sender, marks), reaches(book, name, sender, marks))

    def test_books_of_all_sizes(self):
        draw = random.Random(1)
        for people in range(1, 5):
            for programs in range(1, 5):
                for answers in (0, 1, 2, 3, 5, 8):
                    self.assert_as_walked(drawn_book(draw, people, programs, answers), draw, 12, 6)

    def test_programs_that_take_away(self):
        draw = random.Random(2)
        for book in drawn_books(3, 40, gone=0.03, lengths=(0, 0, 1, 2)):
            self.assert_as_walked(book, draw, 20, 8)

    def test_programs_that_leave_out(self):
        draw = random.Random(3)
        for book in drawn_books(4, 30, gone=0.4):
            self.assert_as_walked(book, draw, 20, 6)

    def test_all_standings(self):
        """Books of which all standings can be looked at: nothing more and nothing less is told."""
        draw = random.Random(6)
        looked = 0
        for book in drawn_books(7, 120, lengths=(0, 1, 1, 2)):
            found = whole_walks(book)
            if found is not None:
                looked += 1
                standings = {name: walk.standings() for name, walk in found.items()}
                some = sorted(set().union(*standings.values()))
                some = draw.sample(some, min(10, len(some)))
                some += [(draw.choice(book.names), marks[1:]) for _, marks in some]
                some += [(draw.choice(book.names), draw.choice(book.signs) + marks) for _, marks in some]
                for sender, marks in some:
                    wanted = tuple([name for name in book.names if (sender, marks) in standings[name]])
                    self.assertEqual(wanted, can_be(book, sender, marks), str(book))
        self.assertGreater(looked, 50)

    def test_all_short_marks(self):
        for book in drawn_books(5, 6, people=3, answers=8, lengths=(0, 1, 1, 2)):
            found = {}
            for name, walk in walks(book, 14).items():
                for standing in walk.lengths():
                    found.setdefault(standing, []).append(name)
            told = {}
            for marks in marks_up_to(2):
                for sender in book.names:
                    told[sender, marks] = self.assert_told(book, sender, marks, found.get((sender, marks), ()))
                names = [name for name in book.names if any([name in told[sender, marks] for sender in book.names])]
                self.assertEqual(tuple(names), can_be_anywhere(book, marks))


class Told(unittest.TestCase):
    def assert_can_be(self, book, sender, marks, *names):
        for told in (can_be(book, sender, marks), can_be(marks=marks, sender=sender, book=book)):
            self.assertEqual(names, told)
            self.assertIs(tuple, told.__class__)
        for name in book.names:
            told = reaches(book, name, sender, marks)
            self.assertIs(name in names, told)
            self.assertIs(told, reaches(marks=marks, sender=sender, writer=name, book=book))

    def assert_anywhere(self, book, marks, *names):
        for told in (can_be_anywhere(book, marks), can_be_anywhere(marks=marks, book=book)):
            self.assertEqual(names, told)
            self.assertIs(tuple, told.__class__)

    def test_the_empty_thread(self):
        for book in (TWO, FOUR, TWO.with_answers(()), FOUR.with_answers(())):
            for name in book.names:
                self.assertIs(True, reaches(book, name, name, ""))
        for name in FOUR.names:
            self.assert_can_be(FOUR.with_answers(()), name, "", name)
            self.assert_can_be(FOUR.with_answers(()), name, ">")
        self.assert_anywhere(FOUR.with_answers(()), "", "bob", "ann", "dora", "cid")
        self.assert_anywhere(FOUR.with_answers(()), ">")

    def test_marks_of_no_one_and_two_signs(self):
        self.assert_can_be(TWO, "ann", "", "ann")
        self.assert_can_be(TWO, "ann", ">", "bob")
        self.assert_can_be(TWO, "bob", ">", "ann")
        self.assert_can_be(TWO, "ann", ">>", "ann", "bob")
        self.assert_can_be(TWO, "bob", ">>", "ann", "bob")
        self.assert_can_be(TWO, "ann", ">>>")
        self.assert_can_be(TWO, "ann", "|")
        self.assert_anywhere(TWO, "", "ann", "bob")
        self.assert_anywhere(TWO, ">", "ann", "bob")
        self.assert_anywhere(TWO, ">>>")

    def test_people_in_the_order_of_the_book(self):
        self.assert_can_be(FOUR, "bob", "", "bob")
        self.assert_can_be(FOUR, "ann", "|", "bob")
        self.assert_can_be(FOUR, "ann", "||", "bob")
        self.assert_can_be(FOUR, "bob", ">", "ann")
        self.assert_can_be(FOUR, "ann", ">>", "ann")
        self.assert_can_be(FOUR, "ann", "||>", "ann")
        self.assert_can_be(FOUR, "dora", "", "dora")
        self.assert_can_be(FOUR, "dora", ">")
        self.assert_anywhere(FOUR, ">", "ann", "cid")
        self.assert_anywhere(FOUR, "||", "bob", "cid")
        self.assert_anywhere(FOUR, "", "bob", "ann", "dora", "cid")
        turned = Book(TWO.people[::-1], TWO.programs, TWO.answers)
        self.assert_can_be(turned, "ann", ">>", "bob", "ann")
        self.assert_anywhere(turned, ">>", "bob", "ann")

    def test_people_who_answer_themselves(self):
        self.assert_can_be(FOUR, "cid", "", "cid")
        self.assert_can_be(FOUR, "cid", ">" * 30, "cid")
        self.assert_can_be(FOUR, "cid", "||" + ">||" * 30, "cid")
        self.assert_can_be(FOUR, "cid", "|")
        book = Book.read("person a :\nperson b :\nprogram p\nelse: @\nanswer a p a\nanswer b p b\nanswer a p b")
        self.assert_can_be(book, "a", "", "a")
        self.assert_can_be(book, "a", ":", "a", "b")
        self.assert_can_be(book, "b", ":::", "b")
        # Nobody else can be the writer where everybody but one answers nobody else.
        self.assert_can_be(book.with_answers((("a", "p", "a"), ("b", "p", "b"))), "a", ":::", "a")

    def test_marks_that_grow_without_end(self):
        book = Book.read("person ann >\nperson bob |\nprogram p\nelse: @\nanswer bob p ann\nanswer ann p bob")
        for many in (1, 2, 10, 100):
            self.assert_can_be(book, "ann", "|>" * many, "ann")
            self.assert_can_be(book, "bob", ">|" * many, "bob")
            self.assert_can_be(book, "ann", "|>" * many + "|", "bob")
            self.assert_can_be(book, "bob", ">|" * many + ">", "ann")
            self.assert_can_be(book, "ann", ">|" * many)
            self.assert_can_be(book, "ann", "|>" * many + ">")
            self.assert_anywhere(book, "|>" * many, "ann")
        self.assert_can_be(book, "ann", "|>" * 2000, "ann")

    def test_signs_that_no_line_of_the_book_bears(self):
        for sign in "#*+:=":
            for marks in (sign, ">" + sign, sign + ">", ">>" + sign):
                self.assert_can_be(TWO, "ann", marks)
                self.assert_anywhere(TWO, marks)
        # The own sign is a sign of the book, but no program puts it.
        self.assert_can_be(FOUR, "dora", "#")
        self.assert_anywhere(FOUR, "#")

    def test_lines_that_are_gone_reach_nothing(self):
        book = Book.read("person ann >\nprogram p\nonly: |\nonly |: gone\nelse: >\nanswer ann p ann")
        self.assert_can_be(book, "ann", "|", "ann")
        self.assert_can_be(book, "ann", ">|")
        book = Book.read("person ann >\nprogram p\nelse: gone\nanswer ann p ann")
        self.assert_can_be(book, "ann", "", "ann")

    def test_what_stands_behind_two_signs_comes_to_the_front(self):
        # A line gets one of ||, |: and both of their signs are taken away again, one by one.
        book = Book.read("person a |\nperson b :\nprogram p\nonly: >@\nbegin >: none\nelse: none\n"
                         "answer b p a\nanswer a p b\nanswer a p a")
        self.assert_can_be(book, "b", ">|", "a")
        self.assert_can_be(book, "a", ">:", "b")
        self.assert_can_be(book, "a", "|", "a")
        self.assert_can_be(book, "b", ":", "b")
        self.assert_can_be(book, "b", ">:")
        self.assert_can_be(book, "a", ":", "b")

    def test_nothing_is_changed_and_equal_calls_return_equal_results(self):
        texts = (str(TWO), str(FOUR))
        for call in (lambda: can_be(TWO, "ann", ">>"), lambda: can_be_anywhere(FOUR, ">"), lambda: confusion(TWO),
                     lambda: confused(TWO), lambda: clear(FOUR), lambda: reaches(FOUR, "ann", "bob", ">")):
            self.assertEqual([call()] * 3, [call() for _ in range(3)])
        self.assertEqual(texts, (str(TWO), str(FOUR)))

    def test_the_interface_is_defined_in_its_file(self):
        for function in (reaches, can_be, can_be_anywhere, clear, confusion, confused):
            self.assertEqual("quotedthreads.telling", function.__module__)
            self.assertIs(function, getattr(telling, function.__name__))


class Refused(Refusing):
    def test_the_book_first(self):
        for value in [*STRANGE, str(TWO), (TWO,), Book, TWO.programs[0]]:
            self.assert_refused(
                NotABook, value,
                lambda: reaches(value, None, None, None), lambda: reaches(value, "ann", "ann", ""),
                lambda: can_be(value, None, None), lambda: can_be(marks="", sender="ann", book=value),
                lambda: can_be_anywhere(value, None), lambda: can_be_anywhere(value, ""),
                lambda: clear(value), lambda: confusion(value), lambda: confused(value),
                lambda: clear(book=value), lambda: confusion(book=value), lambda: confused(book=value),
            )

    def test_then_the_writer(self):
        for value in [*STRANGE, *NO_NAMES, "eve", "two", ("ann",), TWO]:
            self.assert_refused(
                UnknownPerson, value,
                lambda: reaches(TWO, value, None, None), lambda: reaches(TWO, value, "ann", ""),
                lambda: reaches(marks="", sender="eva", writer=value, book=TWO),
            )

    def test_then_the_sender(self):
        for value in [*STRANGE, *NO_NAMES, "eve", "two", ("ann",), TWO]:
            self.assert_refused(
                UnknownPerson, value,
                lambda: reaches(TWO, "ann", value, None), lambda: reaches(TWO, "bob", value, ""),
                lambda: can_be(TWO, value, None), lambda: can_be(marks="", sender=value, book=TWO),
            )

    def test_then_the_marks(self):
        for value in [*STRANGE, *NO_MARKS]:
            self.assert_refused(
                InvalidMarks, value,
                lambda: reaches(TWO, "ann", "bob", value), lambda: can_be(TWO, "ann", value),
                lambda: can_be_anywhere(TWO, value), lambda: can_be_anywhere(marks=value, book=TWO),
            )
