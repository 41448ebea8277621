import random
import unittest

from quotedthreads import threads
from quotedthreads.books import Book
from quotedthreads.errors import InvalidThread, NotABook, UnknownPerson
from quotedthreads.threads import led, possible
from tests.values import NO_NAMES, STRANGE

# ann and bob answer each other, cid answers himself and bob; nobody answers dora, and dora nobody.
BOOK = Book.read("""person ann >
person bob |
person cid #
person dora >
program all
begin #: gone
only: @
only >: |>
begin >>: >>
else: @
program plain
else: >
program none
begin >|: gone
only |: none
else: none
program cuts
begin >>: none
only >: gone
else: @>@
answer bob all ann
answer ann plain bob
answer bob plain ann
answer ann cuts bob
answer cid none bob
answer cid plain cid
answer cid all cid
answer bob none ann""")
TEXT = str(BOOK)


def walked(book, writer, thread):
    """The standings as [7] and [10] tell them, for a thread that is right; what follows None is not looked at."""
    owns, cases = dict(book.people), {program.name: program.cases for program in book.programs}
    standings = [(writer, "")]
    for who, program in thread:
        sender, marks = standings[-1]
        for begin, only, put in cases[program]:
            if only and marks == begin or not only and marks[:len(begin)] == begin:
                break
        if put is None:
            return (*standings, None)
        made = "".join([owns[sender] if letter == "@" else letter for letter in put])
        standings.append((who, made + marks[len(begin):]))
    return tuple(standings)


def some_thread(book, writer, draw, longest=8):
    sender, thread = writer, ()
    for _ in range(draw.randint(0, longest)):
        pairs = possible(book, sender)
        if not pairs:
            break
        thread += (draw.choice(pairs),)
        sender = thread[-1][0]
    return thread


class Led(unittest.TestCase):
    def assert_led(self, writer, thread, *standings):
        for found in (led(BOOK, writer, thread), led(thread=thread, book=BOOK, writer=writer)):
            self.assertEqual(((writer, ""), *standings), found)
            self.assertIs(tuple, found.__class__)
            self.assertEqual([tuple] * len(found[:-1]), [standing.__class__ for standing in found[:-1]])

    def test_the_empty_thread(self):
        for name in BOOK.names:
            self.assert_led(name, ())

    def test_one_answer_from_each_person(self):
        self.assert_led("ann", (("bob", "all"),), ("bob", ">"))
        self.assert_led("ann", (("bob", "plain"),), ("bob", ">"))
        self.assert_led("bob", (("ann", "plain"),), ("ann", ">"))
        self.assert_led("bob", (("ann", "cuts"),), ("ann", "|>|"))
        self.assert_led("bob", (("cid", "none"),), ("cid", ""))
        self.assert_led("cid", (("cid", "all"),), ("cid", "#"))

    def test_many_answers(self):
        self.assert_led(
            "ann",
            (("bob", "plain"), ("ann", "plain"), ("bob", "all"), ("cid", "none"), ("cid", "plain"), ("cid", "all")),
            ("bob", ">"), ("ann", ">>"), ("bob", ">>"), ("cid", ">>"), ("cid", ">>>"), ("cid", ">>>"),
        )
        self.assert_led("cid", (("cid", "plain"),) * 300, *[("cid", ">" * many) for many in range(1, 301)])

    def test_each_kind_of_case(self):
        # Only cases, with and without a sign.
        self.assert_led("bob", (("ann", "plain"), ("bob", "all")), ("ann", ">"), ("bob", "|>"))
        thread = (("bob", "all"), ("ann", "plain"), ("bob", "all"))
        self.assert_led("ann", thread, ("bob", ">"), ("ann", ">>"), ("bob", ">>"))
        # The last case, where an only case of the same begin does not fit.
        self.assert_led("bob", (("ann", "cuts"), ("bob", "all")), ("ann", "|>|"), ("bob", ">|>|"))
        # A begin of two signs that is taken away.
        self.assert_led(
            "ann", (("bob", "plain"), ("ann", "plain"), ("bob", "plain"), ("ann", "cuts")),
            ("bob", ">"), ("ann", ">>"), ("bob", ">>>"), ("ann", ">"),
        )

    def test_the_own_sign_is_that_of_the_one_who_is_answered(self):
        # bob answers ann with her >, ann answers bob with his |, cid answers himself with #.
        self.assert_led("ann", (("bob", "all"),), ("bob", ">"))
        self.assert_led("bob", (("ann", "cuts"), ("bob", "none")), ("ann", "|>|"), ("bob", "|>|"))
        self.assert_led("cid", (("cid", "plain"), ("cid", "plain"), ("cid", "plain"), ("cid", "all")),
                        ("cid", ">"), ("cid", ">>"), ("cid", ">>>"), ("cid", ">>>"))
        self.assert_led("bob", (("cid", "none"), ("cid", "all")), ("cid", ""), ("cid", "#"))

    def test_gone_at_the_last_answer(self):
        self.assert_led("cid", (("cid", "all"), ("cid", "all")), ("cid", "#"), None)
        self.assert_led("ann", (("bob", "all"), ("ann", "cuts")), ("bob", ">"), None)
        self.assert_led("bob", (("ann", "plain"), ("bob", "all"), ("ann", "plain"), ("bob", "none")),
                        ("ann", ">"), ("bob", "|>"), ("ann", ">|>"), None)
        book = Book.read("person ann >\nprogram p\nelse: gone\nanswer ann p ann")
        self.assertEqual((("ann", ""), None), led(book, "ann", (("ann", "p"),)))

    def test_as_the_document_tells_it(self):
        draw = random.Random(1)
        gone = 0
        for _ in range(1500):
            writer = draw.choice(BOOK.names)
            thread = some_thread(BOOK, writer, draw)
            wanted = walked(BOOK, writer, thread)
            if len(wanted) == len(thread) + 1:
                self.assertEqual(wanted, led(BOOK, writer, thread))
            else:
                gone += 1
                self.assertEqual(wanted, led(BOOK, writer, thread[:len(wanted) - 1]))
                with self.assertRaises(InvalidThread) as caught:
                    led(BOOK, writer, thread)
                self.assertEqual(len(wanted) - 1, caught.exception.index)
        self.assertGreater(gone, 100)

    def test_nothing_is_changed_and_equal_calls_return_equal_results(self):
        thread = (("bob", "all"), ("ann", "plain"))
        self.assertEqual([led(BOOK, "ann", thread)] * 3, [led(BOOK, "ann", thread) for _ in range(3)])
        self.assertEqual(((("bob", "all"), ("ann", "plain")), TEXT), (thread, str(BOOK)))

    def test_the_interface_is_defined_in_its_file(self):
        for function in (threads.led, threads.possible):
            self.assertEqual("quotedthreads.threads", function.__module__)


class Refused(unittest.TestCase):
    def assert_thread(self, index, thread, writer="ann"):
        for call in (lambda: led(BOOK, writer, thread), lambda: led(thread=thread, writer=writer, book=BOOK)):
            with self.assertRaises(InvalidThread) as caught:
                call()
            self.assertEqual((index, index.__class__), (caught.exception.index, caught.exception.index.__class__))

    def test_no_tuple(self):
        for value in [value for value in STRANGE if not isinstance(value, tuple)]:
            self.assert_thread(None, value)
        for value in ([], [("bob", "all")], "", "bob", "bob all", {("bob", "all"): 1}):
            self.assert_thread(None, value)

    def test_no_pair(self):
        wrong = [["bob", "all"], (), ("bob",), ("bob", "all", "ann"), "bob all", "bob", "ba", ("all", "bob")]
        wrong += [("bob", BOOK.program("all")), (("bob", "all"),), {"bob": 1, "all": 2}]
        for value in [*STRANGE, *NO_NAMES]:
            wrong += [("bob", value), (value, "all"), (value, value)]
        for value in [*wrong, *STRANGE]:
            self.assert_thread(0, (value,))
            self.assert_thread(0, (value, ("bob", "all")))
            self.assert_thread(1, (("bob", "all"), value))
            self.assert_thread(2, (("bob", "all"), ("ann", "plain"), value, value))

    def test_no_answer_to_the_sender_before_it(self):
        self.assert_thread(0, (("ann", "plain"),))
        self.assert_thread(0, (("bob", "cuts"),))
        self.assert_thread(0, (("cid", "none"),))
        self.assert_thread(0, (("dora", "plain"),))
        self.assert_thread(0, (("eve", "plain"),))
        self.assert_thread(0, (("bob", "five"),))
        self.assert_thread(0, (("bob", "all"),), "bob")
        self.assert_thread(0, (("bob", "all"),), "dora")
        self.assert_thread(1, (("bob", "all"), ("bob", "all")))
        self.assert_thread(2, (("bob", "plain"), ("cid", "none"), ("ann", "plain"), ("bob", "all")))

    def test_behind_one_by_which_the_line_is_gone(self):
        gone = (("bob", "all"), ("ann", "cuts"))
        self.assertIsNone(led(BOOK, "ann", gone)[-1])
        self.assert_thread(2, (*gone, ("bob", "all")))
        self.assert_thread(2, (*gone, None))
        self.assert_thread(2, (*gone, ("ann", "cuts"), ("bob", "all")))
        self.assert_thread(2, (("cid", "all"),) * 3, "cid")

    def test_the_book_then_the_writer_then_the_thread(self):
        for book in [*STRANGE, TEXT, (BOOK,), Book, BOOK.people]:
            for call in (
                lambda: led(book, None, None), lambda: led(thread=(), writer="ann", book=book),
                lambda: possible(book, None), lambda: possible(sender="ann", book=book),
            ):
                with self.assertRaises(NotABook) as caught:
                    call()
                self.assertIs(book, caught.exception.given)
        for name in [*STRANGE, *NO_NAMES, "eve", "all", "plain", ("ann",), BOOK]:
            for call in (
                lambda: led(BOOK, name, None), lambda: led(thread=(), writer=name, book=BOOK),
                lambda: possible(BOOK, name), lambda: possible(sender=name, book=BOOK),
            ):
                with self.assertRaises(UnknownPerson) as caught:
                    call()
                self.assertIs(name, caught.exception.given)


class Possible(unittest.TestCase):
    def test_in_the_order_of_the_book(self):
        for sender, pairs in (
            ("ann", (("bob", "all"), ("bob", "plain"), ("bob", "none"))),
            ("bob", (("ann", "plain"), ("ann", "cuts"), ("cid", "none"))),
            ("cid", (("cid", "plain"), ("cid", "all"))),
            ("dora", ()),
        ):
            for found in (possible(BOOK, sender), possible(sender=sender, book=BOOK)):
                self.assertEqual(pairs, found)
                self.assertEqual([tuple] * (len(pairs) + 1), [value.__class__ for value in (found, *found)])
            turned = BOOK.with_answers(BOOK.answers[::-1])
            self.assertEqual(pairs[::-1], possible(turned, sender))
            self.assertEqual((), possible(BOOK.with_answers(()), sender))

    def test_each_pair_makes_a_thread_and_no_other_one_does(self):
        for sender in BOOK.names:
            for who in (*BOOK.names, "eve"):
                for program in ("all", "plain", "none", "cuts", "five"):
                    if (who, program) in possible(BOOK, sender):
                        self.assertEqual(2, len(led(BOOK, sender, ((who, program),))))
                    else:
                        self.assertRaises(InvalidThread, led, BOOK, sender, ((who, program),))
