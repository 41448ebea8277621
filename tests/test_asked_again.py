"""Many questions, one after another, about the same book, about books like it, and about other ones."""

import random
import unittest
from unittest import mock

from quotedthreads import checker, nodes
from quotedthreads.books import Book
from quotedthreads.certificates import certify_kept, certify_never
from quotedthreads.checker import accepts
from quotedthreads.console import Console
from quotedthreads.desks import Desk
from quotedthreads.errors import Broken, InvalidMarks, NotABook, UnknownPerson
from quotedthreads.numbers import idle_cases, longest
from quotedthreads.programs import Program
from quotedthreads.telling import can_be, can_be_anywhere, clear, confused, confusion, reaches
from tests.machines import plainly_accepts
from tests.values import STRANGE, Refusing, marks_up_to
from tests.walks import drawn_books

PEOPLE = ("ann", "bob", "cat")
ANSWERS = [f"answer {who} tool {whom}" for who in PEOPLE for whom in PEOPLE if who != whom]
TEXT = "\n".join(["person ann #", "person bob *", "person cat +", "program tool", "only: @", "else: :", *ANSWERS])
QUESTIONS = [(sender, marks) for marks in marks_up_to(3) for sender in PEOPLE]
# Some questions, and the answers for TEXT and for books that differ from it in one thing.
SOME = [("ann", ""), ("ann", "#"), ("ann", "*"), ("bob", "*"), ("ann", ":"), ("ann", ":*"), ("cat", "::#")]
TOLD = [("ann",), (), ("bob",), (), (), ("bob",), ("ann",)]
OTHERS = [
    ("person cat +", "person cat *", [("ann",), (), ("bob", "cat"), ("cat",), (), ("bob", "cat"), ("ann",)]),
    ("only: @", "only: :", [("ann",), (), (), (), ("bob", "cat"), (), ()]),
    ("else: :", "else: ::", [("ann",), (), ("bob",), (), (), (), ("ann",)]),
    ("else: :", "else: gone", [("ann",), (), ("bob",), (), (), (), ()]),
    ("\nanswer ann tool bob", "", [("ann",), (), (), (), (), ("bob",), ("ann",)]),
    ("answer ann tool bob", "answer bob tool bob", [("ann",), (), (), ("bob",), (), ("bob",), ("ann",)]),
    ("ann #\nperson bob *", "bob *\nperson ann #", TOLD),
    ("person ann #", "person ann |", [("ann",), (), ("bob",), (), (), ("bob",), ()]),
]
# A machine for lines of ann: they bear nothing, # in mails from the others, or colons ahead of a #.
MACHINE = (("ann", "_", 0), ("bob", "#", 1), ("cat", "#", 1), (1, "_", 0), ("ann", ":", 2), ("bob", ":", 2),
           ("cat", ":", 2), (2, ":", 2), (2, "#", 1))
CLAIMS = [("never", TEXT, "ann", "ann", "#"), ("never", TEXT, "ann", "bob", ":*"), ("kept", TEXT, "ann")]


def changed_text(index):
    old, new, _ = OTHERS[index]
    return TEXT.replace(old, new)


def by_hand(sender, marks):
    """Lines of others bear own signs, and colons ahead of these from the second answer on."""
    if marks == "":
        return (sender,)
    names = tuple([name for name, own in zip(PEOPLE, "#*+") if marks.endswith(own)])
    if names == (sender,) and len(marks) == 1:
        return ()
    return names if marks[:-1] == ":" * (len(marks) - 1) else ()


def asked(book, questions):
    return [can_be(book, sender, marks) for sender, marks in questions]


class CanBe(Refusing):
    def test_all_senders_and_marks_twice(self):
        book = Book.read(TEXT)
        once, again = asked(book, QUESTIONS), asked(book, QUESTIONS)
        self.assertEqual(once, again)
        self.assertEqual([by_hand(sender, marks) for sender, marks in QUESTIONS], once)
        told = dict(zip(QUESTIONS, once))
        for question, names in [*zip(SOME, TOLD), (("bob", "::+"), ("cat",)), (("bob", "+::"), ()), (("cat", "+"), ()),
                                (("bob", ":::"), ()), (("cat", "|"), ()), (("ann", "##"), ()), (("cat", ""), ("cat",))]:
            self.assertEqual(names, told[question], question)

    def test_questions_in_any_order(self):
        told = dict(zip(QUESTIONS, asked(Book.read(TEXT), QUESTIONS)))
        draw = random.Random(1)
        for _ in range(3):
            book, questions = Book.read(TEXT), draw.choices(QUESTIONS, k=300)
            self.assertEqual([told[question] for question in questions], asked(book, questions))
            for sender, marks in questions[:60]:
                for name in PEOPLE:
                    self.assertIs(name in told[sender, marks], reaches(book, name, sender, marks))

    def test_equal_books(self):
        books = [Book.read(TEXT) for _ in range(3)]
        books.append(Book(books[0].people, books[0].programs, books[0].answers))
        books.append(books[0].with_signs(("#", "*", "+")))
        for book in books + books[::-1]:
            self.assertEqual(TOLD, asked(book, SOME))
            self.assertEqual(books[0], book)

    def test_books_that_differ_in_one_thing(self):
        books = [(Book.read(TEXT), TOLD)]
        books += [(Book.read(changed_text(index)), OTHERS[index][2]) for index in range(len(OTHERS))]
        for book, told in books + books[::-1] + books:
            self.assertEqual(told, asked(book, SOME), str(book))
        for question in range(len(SOME)):
            for book, told in books:
                self.assertEqual(told[question:question + 1], asked(book, SOME[question:question + 1]), str(book))

    def test_another_name(self):
        book, renamed = Book.read(TEXT), Book.read(TEXT.replace("cat", "dog"))
        for _ in range(2):
            self.assertEqual([("cat",), ("cat",)], asked(book, [("ann", "+"), ("cat", ":+")]))
            self.assertEqual([("dog",), ("dog",)], asked(renamed, [("ann", "+"), ("dog", ":+")]))
            self.assert_refused(UnknownPerson, "dog", lambda: can_be(book, "dog", ""))
            self.assert_refused(UnknownPerson, "cat", lambda: can_be(renamed, "cat", ""))

    def test_books_made_from_another_one(self):
        book = Book.read(TEXT)
        tool = Program.read("program tool\nonly: @\nelse: ::")
        for _ in range(2):
            self.assertEqual(TOLD, asked(book, SOME))
            self.assertEqual(OTHERS[0][2], asked(book.with_signs(("#", "*", "*")), SOME))
            self.assertEqual(OTHERS[2][2], asked(book.with_program(tool), SOME))
            self.assertEqual(OTHERS[4][2], asked(book.with_answers(book.answers[1:]), SOME))
            again = book.with_program(tool).with_program(book.program("tool"))
            self.assertEqual(TOLD, asked(again.with_answers(()).with_answers(book.answers), SOME))

    def test_errors_before_and_after(self):
        for book in (Book.read(TEXT), Book.read(TEXT)):
            for _ in range(2):
                for value in [*STRANGE, "dog", "tool", ("ann",)]:
                    self.assert_refused(UnknownPerson, value, lambda: can_be(book, value, "::#"))
                for value in [*STRANGE, "::@", ":: #", "_", ("#",)]:
                    self.assert_refused(InvalidMarks, value, lambda: can_be(book, "ann", value))
                for value in [*STRANGE, TEXT, (book,)]:
                    self.assert_refused(NotABook, value, lambda: can_be(value, "ann", "::#"))
                self.assertEqual(TOLD, asked(book, SOME))

    def test_the_book_stays_as_it_is(self):
        book, other = Book.read(TEXT), Book.read(TEXT)
        asked(book, QUESTIONS)
        self.assertEqual((str(other), repr(other)), (str(book), repr(book)))
        self.assertTrue(book == other and other == book and book != TEXT)
        for name in ("people", "programs", "answers", "names", "signs"):
            self.assertEqual(getattr(other, name), getattr(book, name))

    def test_desks_and_consoles_ask_the_book_that_they_have(self):
        desk, console = Desk(Book.read(TEXT)), Console(Book.read(TEXT))
        desk.claim(("tells", "ann", ":*", "bob"))
        self.assertEqual("bob", console.say("who ann :*"))
        with self.assertRaises(Broken) as caught:
            desk.put_signs(("#", "*", "*"))
        self.assertEqual(("bob", "cat"), caught.exception.shown)
        self.assertEqual(["ok", "bob cat"], [console.say("signs #**"), console.say("who ann :*")])
        self.assertEqual(["ok", "bob"], [console.say("undo"), console.say("who ann :*")])
        self.assertEqual(("bob",), can_be(desk.book, "ann", ":*"))

    def test_other_questions_about_the_same_book(self):
        for book in drawn_books(21, 30):
            marks = "".join(book.signs[:2])
            calls = [lambda which: clear(which), lambda which: confusion(which), lambda which: confused(which),
                     lambda which: can_be_anywhere(which, marks), lambda which: can_be(which, which.names[0], marks),
                     lambda which: [longest(which, name) for name in which.names],
                     lambda which: idle_cases(which, which.programs[0].name),
                     lambda which: certify_kept(which, which.names[0])]
            told = [call(Book.read(str(book))) for call in calls]
            self.assertEqual(told, [call(book) for call in calls])
            self.assertEqual(told[::-1], [call(book) for call in calls[::-1]])


class Work(unittest.TestCase):
    def test_the_arrows_of_a_book_are_made_once(self):
        book = Book.read(TEXT)
        with mock.patch.object(nodes, "rules_of", wraps=nodes.rules_of) as work:
            asked(book, QUESTIONS * 2)
            can_be_anywhere(book, "::#")
            self.assertTrue(clear(book))
            self.assertEqual(1, work.call_count)
            # Each book has its own ones.
            asked(book.with_signs(("#", "*", "+")), QUESTIONS)
            self.assertEqual(2, work.call_count)

    def test_a_function_is_called_once_for_a_book(self):
        def first(book):
            calls.append((1, book))
            return None

        def second(book):
            calls.append((2, book))
            return [book.once(first)]

        calls, book, other = [], Book.read(TEXT), Book.read(TEXT)
        self.assertEqual([None, [None], None], [book.once(first), book.once(second), book.once(first)])
        self.assertIs(book.once(second), book.once(work=second))
        self.assertEqual([[None], None], [other.once(second), other.once(first)])
        self.assertIsNot(book.once(second), other.once(second))
        self.assertEqual([1, 2, 2, 1], [number for number, _ in calls])
        self.assertTrue(all([which is wanted for (_, which), wanted in zip(calls, (book, book, other, other))]))

    def test_a_certificate_takes_few_steps(self):
        """The strings of rules begin alike and are read once; what is made is read only where it matters."""
        with mock.patch.object(checker, "_step", wraps=checker._step) as steps:
            for claim in CLAIMS:
                self.assertTrue(accepts(claim, MACHINE))
        # 126 rules have some 650 signs; there are 66 contexts of one and two signs, for three people.
        self.assertLess(steps.call_count, 3 * 100)

    def test_a_program_is_asked_once_for_each_context(self):
        with mock.patch.object(Program, "taken", autospec=True, side_effect=Program.taken) as taken:
            self.assertTrue(accepts(CLAIMS[0], MACHINE))
        self.assertLessEqual(taken.call_count, 21)


class Accepts(unittest.TestCase):
    def test_without_one_of_its_arrows_and_again(self):
        for claim in CLAIMS:
            for at in range(len(MACHINE)):
                fewer = MACHINE[:at] + MACHINE[at + 1:]
                self.assertEqual([True, False, True, False],
                                 [accepts(claim, machine) for machine in (MACHINE, fewer, MACHINE, fewer)])

    def test_another_text_in_between(self):
        """The same certificate for books that differ in one thing."""
        everything, nothing = (True, True, True), (False, False, False)
        wanted = [everything, nothing, everything, (True, True, False), everything, everything, everything, nothing]
        for index, told in enumerate(wanted):
            for claim, other in zip(CLAIMS, told):
                changed = (claim[0], changed_text(index), *claim[2:])
                for fewer in (MACHINE[1:], MACHINE[:-1]):
                    found = [accepts(*pair) for pair in ((claim, MACHINE), (changed, MACHINE), (claim, fewer),
                                                         (changed, fewer), (claim, MACHINE), (changed, MACHINE))]
                    self.assertEqual([True, other, False, other and plainly_accepts(changed, fewer)], found[:4])
                    self.assertEqual([True, other], found[4:])

    def test_texts_that_are_no_books_in_between(self):
        for claim in CLAIMS:
            for text in (TEXT + "\n", TEXT.replace("#", "@"), TEXT.replace("else: :", "else: :|="), "", None, 3,
                         TEXT.replace("ann", "dog", 1), Book.read(TEXT), [TEXT], TEXT.split("\n")):
                wrong = (claim[0], text, *claim[2:])
                self.assertEqual([True, False, True, False], [accepts(*pair) for pair in (
                    (claim, MACHINE), (wrong, MACHINE), (claim, MACHINE), (wrong, MACHINE))])

    def test_strange_claims_and_certificates_in_between(self):
        for value in STRANGE:
            for pair in ((value, MACHINE), (CLAIMS[0], value), ((*CLAIMS[0], value), MACHINE),
                         (CLAIMS[0], (*MACHINE, value))):
                self.assertIs(False, accepts(*pair))
                self.assertIs(True, accepts(CLAIMS[0], MACHINE))

    def test_rows_of_calls_in_any_order(self):
        draw = random.Random(2)
        calls = []
        for index in (0, 3, 5):
            for text in (TEXT, changed_text(index)):
                book = Book.read(text)
                for name in PEOPLE:
                    claim, machine = certify_never(book, name, "ann", "|")
                    turned = tuple([(start, sign, goal) for start, sign, goal in reversed(machine)])
                    raised = tuple([tuple([part + 7 if isinstance(part, int) else part for part in arrow])
                                    for arrow in machine])
                    at = draw.randrange(len(machine))
                    less = machine[:at] + machine[at + 1:]
                    more = (*machine, (draw.choice(PEOPLE), draw.choice(":#*"), draw.choice(machine)[2]))
                    for shown in (machine, turned, raised, less, more):
                        calls += [(claim, shown), (("kept", *claim[1:3]), shown), (("within", *claim[1:3], 3), shown)]
        wanted = [plainly_accepts(*call) for call in calls]
        self.assertGreater(wanted.count(True), 50)
        self.assertGreater(wanted.count(False), 50)
        for _ in range(3):
            order = draw.sample(range(len(calls)), len(calls))
            self.assertEqual([wanted[at] for at in order], [accepts(*calls[at]) for at in order])
