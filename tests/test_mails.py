import random
import unittest

from quotedthreads import mails
from quotedthreads.books import Book
from quotedthreads.errors import InvalidLeft, InvalidTexts, NotABook, UnknownAnswer, UnknownPerson
from quotedthreads.mails import Mail
from quotedthreads.threads import led, possible
from tests.test_threads import BOOK, walked
from tests.values import NO_NAMES, STRANGE, EqualToAll, Incomparable

TWENTY = tuple([f"line {k}" for k in range(20)])
NO_TUPLES = [*[value for value in STRANGE if not isinstance(value, tuple)], [], ["hi"], "", "hi", {"hi": 1}]
NO_TEXTS = [*STRANGE, "\n", "hi\n", "\nhi", "hi\nyou", "hi\n\nyou", ["hi"], ("hi",)]


def first_mail(*texts):
    return Mail(BOOK, "ann", texts)


class Made(unittest.TestCase):
    def assert_mail(self, mail, sender, lines, writers):
        self.assertEqual((sender, lines, writers), (mail.sender, mail.lines, mail.writers))
        for value in (mail.lines, mail.writers, *mail.lines):
            self.assertIs(tuple, value.__class__)

    def test_by_position_and_by_name(self):
        for mail in (
            Mail(BOOK, "bob", ("hi", "", "you there")),
            Mail(book=BOOK, sender="bob", texts=("hi", "", "you there")),
            Mail(texts=("hi", "", "you there"), sender="bob", book=BOOK),
        ):
            self.assertIs(BOOK, mail.book)
            self.assert_mail(mail, "bob", (("", "hi"), ("", ""), ("", "you there")), ("bob", "bob", "bob"))

    def test_each_sender(self):
        for name in BOOK.names:
            self.assert_mail(Mail(BOOK, name, ("hi",)), name, (("", "hi"),), (name,))

    def test_no_lines_to_twenty(self):
        for many in range(21):
            mail = Mail(BOOK, "ann", TWENTY[:many])
            self.assert_mail(mail, "ann", tuple([("", text) for text in TWENTY[:many]]), ("ann",) * many)
            self.assertEqual(f"Mail of {many} lines from ann", repr(mail))
            self.assertEqual("\n".join(TWENTY[:many]), str(mail))

    def test_texts_may_look_like_anything(self):
        texts = ("> hi", ">", " ", "  two ", "@", "|> hi", "gone", "~!\"$&'()[]{}\\", "#*+:=>|", "hi", "hi")
        mail = Mail(BOOK, "ann", texts)
        self.assertEqual(tuple([("", text) for text in texts]), mail.lines)
        self.assertEqual("\n".join(texts), str(mail))

    def test_text(self):
        self.assertEqual("", str(first_mail()))
        self.assertEqual("", str(first_mail("")))
        self.assertEqual("\n", str(first_mail("", "")))
        self.assertEqual("hi\n\nyou", str(first_mail("hi", "", "you")))
        answer = first_mail("hi", "", " you").answered("bob", "plain", ("", "x"), ("y",))
        self.assertEqual("\nx\n> hi\n> \n>  you\ny", str(answer))
        self.assertEqual(">> hi\n>> ", str(first_mail("hi", "").answered("bob", "plain").answered("ann", "plain")))
        # The program none puts nothing: rows without marks have no space ahead.
        self.assertEqual("hi\n\nme", str(first_mail("hi", "").answered("bob", "none", below=("me",))))

    def test_repr(self):
        mail = first_mail("hi").answered("bob", "plain", ("a",), ("b", "c"))
        self.assertEqual("Mail of 4 lines from bob", repr(mail))
        self.assertEqual("Mail of 0 lines from dora", repr(Mail(BOOK, "dora", ())))
        self.assertEqual("Mail of 1 lines from cid", repr(Mail(BOOK, "cid", ("hi",))))
        full = first_mail(*TWENTY).answered("bob", "plain", TWENTY, TWENTY)
        self.assertEqual("Mail of 60 lines from bob", repr(full))
        self.assertEqual("Mail of 100 lines from ann", repr(full.answered("ann", "plain", TWENTY, TWENTY)))

    def test_a_mail_equals_itself_alone_and_is_true(self):
        one, other = first_mail("hi"), first_mail("hi")
        self.assertTrue(one == one)
        self.assertFalse(one != one)
        self.assertFalse(one == other)
        self.assertTrue(one != other)
        self.assertFalse(one.answered("bob", "plain") == one.answered("bob", "plain"))
        for value in [*STRANGE, str(one), repr(one), one.lines, BOOK]:
            # What these two classes answer for themselves is theirs.
            if not isinstance(value, (EqualToAll, Incomparable)):
                self.assertIs(False, one == value)
                self.assertIs(True, one != value)
        for mail in (one, first_mail(), one.answered("bob", "plain", left=(0,))):
            self.assertIs(True, bool(mail))

    def test_nothing_of_it_can_be_changed(self):
        mail = first_mail("hi")
        for name in ("book", "sender", "lines", "writers"):
            with self.assertRaises(AttributeError):
                setattr(mail, name, ())

    def test_the_interface_is_defined_in_its_file(self):
        self.assertEqual("quotedthreads.mails", mails.Mail.__module__)
        for name in ("__init__", "book", "sender", "lines", "writers", "answered", "__str__", "__repr__"):
            self.assertIn(name, vars(Mail))


class Answered(unittest.TestCase):
    def assert_mail(self, mail, sender, *lines):
        self.assertIs(Mail, mail.__class__)
        self.assertIs(BOOK, mail.book)
        self.assertEqual(sender, mail.sender)
        self.assertEqual(lines, tuple([(writer, *line) for writer, line in zip(mail.writers, mail.lines)]))
        self.assertEqual(len(mail.lines), len(mail.writers))
        for value in (mail.lines, mail.writers, *mail.lines):
            self.assertIs(tuple, value.__class__)

    def test_without_own_lines(self):
        self.assert_mail(first_mail("hi").answered("bob", "plain"), "bob", ("ann", ">", "hi"))
        self.assert_mail(first_mail("hi").answered("bob", "all"), "bob", ("ann", ">", "hi"))
        self.assert_mail(first_mail().answered("bob", "plain"), "bob")
        answer = Mail(BOOK, "cid", ("a", "b")).answered("cid", "all")
        self.assert_mail(answer, "cid", ("cid", "#", "a"), ("cid", "#", "b"))

    def test_own_lines_above_and_below(self):
        mail = first_mail("a", "b")
        lines = [("bob", "", "x"), ("bob", "", "y"), ("ann", ">", "a"), ("ann", ">", "b"), ("bob", "", "z")]
        for answer in (
            mail.answered("bob", "plain", ("x", "y"), ("z",)),
            mail.answered("bob", "plain", ("x", "y"), ("z",), ()),
            mail.answered("bob", "plain", above=("x", "y"), below=("z",)),
            mail.answered(left=(), below=("z",), above=("x", "y"), program="plain", who="bob"),
        ):
            self.assert_mail(answer, "bob", *lines)
        self.assert_mail(mail.answered("bob", "plain", ("x", "y")), "bob", *lines[:-1])
        self.assert_mail(mail.answered("bob", "plain", below=("z",)), "bob", *lines[2:])
        self.assert_mail(mail.answered("bob", "plain", left=(1, 0), below=("z",)), "bob", lines[-1])

    def test_lines_that_are_left_out_by_hand(self):
        mail = first_mail("a", "b", "c")
        lines = [("ann", ">", "a"), ("ann", ">", "b"), ("ann", ">", "c")]
        for left, kept in (
            ((), (0, 1, 2)), ((0,), (1, 2)), ((1,), (0, 2)), ((2,), (0, 1)), ((2, 0), (1,)), ((0, 2), (1,)),
            ((1, 2, 0), ()),
        ):
            for answer in (
                mail.answered("bob", "plain", (), (), left), mail.answered("bob", "plain", left=left),
            ):
                self.assert_mail(answer, "bob", *[lines[index] for index in kept])

    def test_indexes_are_those_of_all_lines_of_the_mail(self):
        mail = first_mail("a").answered("bob", "plain", ("x",), ("y",))
        lines = [("bob", ">", "x"), ("ann", ">>", "a"), ("bob", ">", "y")]
        for index in range(3):
            wanted = lines[:index] + lines[index + 1:]
            self.assert_mail(mail.answered("ann", "plain", left=(index,)), "ann", *wanted)

    def test_lines_that_the_program_leaves_out(self):
        mail = first_mail("a", "b").answered("bob", "plain", ("x",), ("y",))
        # cuts: the marks > are gone, no marks become |>|.
        self.assert_mail(
            mail.answered("ann", "cuts", ("p",), ("q",)),
            "ann", ("ann", "", "p"), ("bob", "|>|", "x"), ("bob", "|>|", "y"), ("ann", "", "q"),
        )
        # The indexes still count the lines that the program leaves out.
        self.assert_mail(mail.answered("ann", "cuts", left=(3,)), "ann", ("bob", "|>|", "x"))
        self.assert_mail(mail.answered("ann", "cuts", left=(1, 2)), "ann", ("bob", "|>|", "x"), ("bob", "|>|", "y"))
        twice = Mail(BOOK, "cid", ("a",)).answered("cid", "all").answered("cid", "all", ("b",))
        self.assert_mail(twice, "cid", ("cid", "", "b"))

    def test_writers_stay_those_who_wrote_the_lines(self):
        mail = Mail(BOOK, "bob", ("b",)).answered("ann", "plain", ("a",)).answered("bob", "plain", (), ("c",))
        mail = mail.answered("cid", "none", ("d",))
        self.assert_mail(mail, "cid", ("cid", "", "d"), ("ann", ">", "a"), ("bob", ">>", "b"), ("bob", "", "c"))
        self.assertEqual(("cid", "ann", "bob", "bob"), mail.writers)

    def test_the_mail_itself_stays_as_it_was(self):
        mail = first_mail("a", "b")
        before = (mail.book, mail.sender, mail.lines, mail.writers, str(mail), repr(mail))
        above, below, left = ("x",), ("y",), (0,)
        one = mail.answered("bob", "plain", above, below, left)
        other = mail.answered("bob", "plain", above, below, left)
        one.answered("ann", "plain", ("z",))
        for call in (
            lambda: mail.answered("bob", "five"), lambda: mail.answered("bob", "plain", left=(2,)),
            lambda: mail.answered("bob", "plain", ("x",), ("\n",)),
        ):
            self.assertRaises((UnknownAnswer, InvalidTexts, InvalidLeft), call)
        self.assertEqual(before, (mail.book, mail.sender, mail.lines, mail.writers, str(mail), repr(mail)))
        self.assertEqual((("x",), ("y",), (0,)), (above, below, left))
        self.assertEqual((one.lines, one.writers, one.sender), (other.lines, other.writers, other.sender))
        self.assertEqual((("", "x"), (">", "b"), ("", "y")), one.lines)

    def test_twenty_lines_above_and_below(self):
        mail = first_mail(*TWENTY).answered("bob", "plain", TWENTY, TWENTY)
        self.assertEqual(("",) * 20 + (">",) * 20 + ("",) * 20, tuple([marks for marks, _ in mail.lines]))
        self.assertEqual(TWENTY * 3, tuple([text for _, text in mail.lines]))
        self.assertEqual(("bob",) * 20 + ("ann",) * 20 + ("bob",) * 20, mail.writers)
        self.assertEqual((), mail.answered("ann", "plain", left=tuple(range(60))).lines)

    def test_lines_go_where_threads_lead_them(self):
        draw = random.Random(2)
        for _ in range(300):
            sender = draw.choice(BOOK.names)
            mail = Mail(BOOK, sender, ("0",))
            # Each line has a text of its own, which tells here by whom and behind how many answers it was written.
            written, thread = {"0": (sender, 0)}, ()
            for step in range(1, draw.randint(2, 9)):
                pairs = possible(BOOK, mail.sender)
                if not pairs:
                    break
                thread += (draw.choice(pairs),)
                mail = mail.answered(*thread[-1], (f"{step}a",), (f"{step}b",))
                written[f"{step}a"] = written[f"{step}b"] = (mail.sender, step)
            there = {text: (writer, marks) for writer, (marks, text) in zip(mail.writers, mail.lines)}
            for text, (writer, step) in written.items():
                if text in there:
                    self.assertEqual(writer, there[text][0])
                    self.assertEqual((mail.sender, there[text][1]), led(BOOK, writer, thread[step:])[-1])
                else:
                    self.assertIsNone(walked(BOOK, writer, thread[step:])[-1])


class Refused(unittest.TestCase):
    def assert_index(self, error, index, *calls):
        for call in calls:
            with self.assertRaises(error) as caught:
                call()
            self.assertEqual((index, index.__class__), (caught.exception.index, caught.exception.index.__class__))

    def assert_texts(self, index, texts):
        mail = first_mail("hi")
        self.assert_index(
            InvalidTexts, index,
            lambda: Mail(BOOK, "ann", texts), lambda: Mail(texts=texts, sender="ann", book=BOOK),
            lambda: mail.answered("bob", "plain", texts), lambda: mail.answered("bob", "plain", above=texts),
            lambda: mail.answered("bob", "plain", ("x",), texts), lambda: mail.answered("bob", "plain", below=texts),
        )

    def assert_left(self, index, left, mail=first_mail("a", "b", "c")):
        self.assert_index(
            InvalidLeft, index,
            lambda: mail.answered("bob", "plain", (), (), left), lambda: mail.answered("bob", "plain", left=left),
        )

    def test_texts(self):
        for value in NO_TUPLES:
            self.assert_texts(None, value)
        for value in NO_TEXTS:
            self.assert_texts(0, (value,))
            self.assert_texts(0, (value, value))
            self.assert_texts(1, ("hi", value, "hi"))
            self.assert_texts(19, (*TWENTY[:19], value, "hi"))

    def test_a_twenty_first_text(self):
        self.assert_texts(20, (*TWENTY, "hi"))
        self.assert_texts(20, (*TWENTY, None, None))
        self.assert_texts(20, ("",) * 50)
        self.assert_texts(3, (*TWENTY[:3], None, *TWENTY))

    def test_the_book_then_the_sender_then_the_texts(self):
        for book in [*STRANGE, str(BOOK), (BOOK,), Book]:
            for call in (lambda: Mail(book, None, None), lambda: Mail(texts=(), sender="ann", book=book)):
                with self.assertRaises(NotABook) as caught:
                    call()
                self.assertIs(book, caught.exception.given)
        for name in [*STRANGE, *NO_NAMES, "eve", "all", ("ann",), BOOK]:
            for call in (lambda: Mail(BOOK, name, None), lambda: Mail(texts=(), sender=name, book=BOOK)):
                with self.assertRaises(UnknownPerson) as caught:
                    call()
                self.assertIs(name, caught.exception.given)

    def test_unknown_answers(self):
        mail = first_mail("hi")
        wrong = [("ann", "plain"), ("bob", "cuts"), ("cid", "plain"), ("eve", "plain"), ("bob", "five"), ("all", "bob")]
        for value in [*STRANGE, *NO_NAMES, ("bob",), ["bob"]]:
            wrong += [(value, "plain"), ("bob", value), (value, value)]
        for who, program in wrong:
            for call in (
                lambda: mail.answered(who, program), lambda: mail.answered(program=program, who=who),
                lambda: mail.answered(who, program, None, ("\n",), None),
            ):
                with self.assertRaises(UnknownAnswer) as caught:
                    call()
                given = caught.exception.given
                self.assertIs(tuple, given.__class__)
                self.assertEqual(3, len(given))
                self.assertIs(who, given[0])
                self.assertIs(program, given[1])
                self.assertEqual("ann", given[2])
        answer = mail.answered("bob", "plain")
        with self.assertRaises(UnknownAnswer) as caught:
            answer.answered("bob", "plain")
        self.assertEqual(("bob", "plain", "bob"), caught.exception.given)

    def test_left(self):
        for value in NO_TUPLES:
            self.assert_left(None, value)
        wrong = [value for value in STRANGE if value.__class__ is not int]
        for value in [*wrong, "0", (0,), [0], -1, 3, 4, 10 ** 39, -3]:
            self.assert_left(0, (value,))
            self.assert_left(0, (value, value))
            self.assert_left(1, (2, value))
            self.assert_left(3, (2, 0, 1, value))
        self.assert_left(0, (True,))
        self.assert_left(0, (False, 0))
        self.assert_left(1, (0, False))
        self.assert_left(0, (0,), first_mail())

    def test_an_index_that_stands_there_before(self):
        self.assert_left(1, (0, 0))
        self.assert_left(2, (1, 2, 1))
        self.assert_left(2, (1, 2, 2, None))
        self.assert_left(3, (0, 1, 2, 0, 3))

    def test_above_then_below_then_left(self):
        mail = first_mail("hi")
        self.assert_index(
            InvalidTexts, 1,
            lambda: mail.answered("bob", "plain", ("x", None), None, None),
            lambda: mail.answered("bob", "plain", left=None, below=(None,), above=("x", None)),
            lambda: mail.answered("bob", "plain", ("x",), ("x", None), (None,)),
            lambda: mail.answered("bob", "plain", left=(None,), below=("x", None)),
        )
        self.assert_index(InvalidTexts, None, lambda: mail.answered("bob", "plain", (), [], (9,)))
        self.assert_index(InvalidLeft, 0, lambda: mail.answered("bob", "plain", ("x",), ("y",), (1,)))
