import random
import unittest

from quotedthreads import console
from quotedthreads.books import Book
from quotedthreads.console import Console
from quotedthreads.desks import Desk
from quotedthreads.errors import CannotBe, InvalidText, NotABook, NotRight, NotThere
from quotedthreads.numbers import behind, gone_after, longest
from quotedthreads.programs import Program
from quotedthreads.telling import can_be, confusion
from tests.values import STRANGE, changed
from tests.walks import drawn_book, drawn_program

BOOK = Book.read("""person ann >
person bob |
program own
else: @
program two
begin >>: >>
else: >
answer bob own ann
answer ann own bob""")
# A line of each kind.
LINES = [
    "program own; begin >>: >>; else: >", "signs >>", "undo", "claim clear", "claim kept ann", "claim within ann 20",
    "claim tells ann | bob", "who ann |>", "behind ann ann none", "clear", "longest ann", "gone ann", "book",
]


class ConsoleTests(unittest.TestCase):
    def assert_says(self, held, *rows):
        for line, answer in rows:
            found = held.say(line)
            self.assertEqual((line, answer), (line, found))
            self.assertIs(str, found.__class__)

    def assert_is_none(self, held, line):
        """Nothing is answered, and nothing is changed."""
        book = held.say("book")
        for call in (lambda: held.say(line), lambda: held.say(line=line)):
            with self.assertRaises(InvalidText) as caught:
                call()
            self.assertIs(line, caught.exception.given)
        self.assertEqual(book, held.say("book"))


class Lines(ConsoleTests):
    def test_book(self):
        for held in (Console(BOOK), Console(book=BOOK)):
            self.assert_says(held, ("book", str(BOOK)))
            self.assertEqual(str(BOOK), held.say(line="book"))

    def test_program(self):
        held = Console(BOOK)
        self.assert_says(held, ("program own; begin >>: >>; only: @; else: gone", "ok"))
        program = Program.read("program own\nbegin >>: >>\nonly: @\nelse: gone")
        self.assert_says(held, ("book", str(BOOK.with_program(program))), ("program two; else: none", "ok"))
        book = BOOK.with_program(program).with_program(Program.read("program two\nelse: none"))
        self.assert_says(held, ("book", str(book)))
        for text in ("program two", "program own", "program own; only |: none; begin ::: :; else: :"):
            text = text if ";" in text else str(book.program(text.split(" ")[1])).replace("\n", "; ")
            self.assert_says(held, (text, "ok"))

    def test_programs_that_cannot_be_read(self):
        held = Console(BOOK)
        for line in ("program ", "program  ", "program own", "program own;", "program own; ", "program own;else: >",
                     "program own; else: > ", "program  own; else: >", "program own; else: >; ", "program own; else: x",
                     "program own; else:  >", "program OWN; else: >", "program own ; else: >", "program own; ; else: >",
                     "program own; begin >>>: >; else: >", "program own: else: >", "program own; only: >",
                     "program program own; else: >", "program ;;;", "program " + "x" * 3000):
            self.assert_says(held, (line, "InvalidText"))
        self.assert_says(held, ("book", str(BOOK)), ("undo", "NothingToUndo"))

    def test_programs_that_are_refused(self):
        held = Console(BOOK)
        self.assert_says(held, ("program three; else: >", "UnknownProgram"), ("program ann; else: >", "UnknownProgram"),
                         ("program own; only: #*; else: +", "TooManySigns"), ("claim clear", "ok"),
                         ("program own; else: none", "Broken"), ("book", str(BOOK)))

    def test_signs(self):
        held = Console(BOOK)
        self.assert_says(held, ("signs >>", "ok"), ("book", str(BOOK.with_signs((">", ">")))), ("signs #*", "ok"),
                         ("book", str(BOOK.with_signs(("#", "*")))), ("signs ", "InvalidSigns"),
                         ("signs #", "InvalidSigns"), ("signs #*+", "InvalidSigns"), ("signs # *", "InvalidSigns"),
                         ("signs  *", "InvalidSigns"), ("signs # ", "InvalidSigns"), ("signs ab", "InvalidSigns"),
                         ("signs @>", "InvalidSigns"), ("signs   ", "InvalidSigns"), ("signs  ", "InvalidSigns"),
                         ("book", str(BOOK.with_signs(("#", "*")))), ("undo", "ok"), ("undo", "ok"),
                         ("book", str(BOOK)))
        held = Console(BOOK.with_program(Program.read("program two\nonly: #\nelse: *")))
        self.assert_says(held, ("signs +:", "ok"), ("program two; only: #; begin *: =; else: *", "TooManySigns"),
                         ("signs #*", "ok"), ("program two; only: #; begin *: =; else: *", "ok"),
                         ("signs +:", "TooManySigns"), ("claim tells ann ## bob", "ok"), ("signs ##", "Broken"))

    def test_undo(self):
        held = Console(BOOK)
        self.assert_says(held, ("undo", "NothingToUndo"), ("signs >>", "ok"), ("claim clear", "ok"), ("undo", "ok"),
                         ("undo", "ok"), ("book", str(BOOK)), ("undo", "NothingToUndo"))

    def test_claims(self):
        held = Console(BOOK)
        self.assert_says(held, ("claim clear", "ok"), ("claim kept ann", "ok"), ("claim kept bob", "ok"),
                         ("claim tells ann none ann", "ok"), ("claim tells bob > ann", "ok"),
                         ("claim tells bob #*+:=>| bob", "ok"), ("claim within ann 20", "Broken"),
                         ("claim tells bob > bob", "Broken"), ("claim kept eve", "UnknownPerson"),
                         ("claim within eve 2", "UnknownPerson"), ("claim tells eve > bob", "UnknownPerson"),
                         ("claim tells bob > none", "UnknownPerson"), ("claim kept clear", "UnknownPerson"))
        for _ in range(6):
            self.assert_says(held, ("undo", "ok"))
        self.assert_says(held, ("undo", "NothingToUndo"))

    def test_claims_within_each_number(self):
        held = Console(BOOK.with_program(Program.read("program own\nbegin >>: >>\nelse: >")))
        for many in range(21):
            self.assert_says(held, (f"claim within ann {many}", "ok" if many >= 2 else "Broken"))

    def test_claims_hold_for_what_is_put(self):
        held = Console(BOOK)
        self.assert_says(held, ("claim kept bob", "ok"), ("program own; only: @; else: gone", "Broken"),
                         ("claim clear", "ok"), ("program own; begin >>: >>; else: >", "Broken"), ("undo", "ok"),
                         ("program own; begin >>: >>; else: >", "ok"), ("claim within bob 2", "ok"),
                         ("program own; else: >", "Broken"), ("undo", "ok"), ("program own; else: >", "ok"))

    def test_who(self):
        held = Console(BOOK)
        self.assert_says(held, ("who ann none", "ann"), ("who ann |", "bob"), ("who ann |>", "ann"), ("who ann >", "-"),
                         ("who bob #", "-"), ("who eve >", "UnknownPerson"), ("who none none", "UnknownPerson"),
                         ("program own; begin >>: >>; else: >", "ok"), ("who ann >>", "ann bob"),
                         ("who bob >>", "ann bob"))
        self.assert_says(Console(Book(BOOK.people[::-1], (Program.read("program own\nonly: #\nelse: none"),),
                                      BOOK.answers)),
                         ("who bob #", "bob ann"))

    def test_behind(self):
        held = Console(BOOK)
        self.assert_says(held, ("behind ann ann none", "0 0"), ("behind ann ann |>", "2 2"),
                         ("behind ann bob >", "1 1"),
                         ("behind bob ann |>|", "3 3"), ("behind ann ann >", "-"), ("behind bob ann none", "-"),
                         ("behind eve ann none", "UnknownPerson"), ("behind ann eve none", "UnknownPerson"),
                         ("program own; begin >>: >>; else: >", "ok"), ("behind ann ann >>", "2 -"),
                         ("behind bob ann >>", "3 -"), ("behind ann bob >", "1 1"))

    def test_clear(self):
        held = Console(BOOK)
        self.assert_says(held, ("clear", "yes"), ("program own; begin >>: >>; else: >", "ok"),
                         ("clear", ">> ann ann bob"),
                         ("program own; else: none", "ok"), ("clear", "none ann ann bob"), ("undo", "ok"),
                         ("clear", ">> ann ann bob"), ("undo", "ok"), ("clear", "yes"))

    def test_longest_and_gone(self):
        held = Console(BOOK)
        self.assert_says(held, ("longest ann", "-"), ("gone ann", "-"), ("longest eve", "UnknownPerson"),
                         ("gone eve", "UnknownPerson"), ("longest gone", "UnknownPerson"),
                         ("program own; begin >>: gone; else: >", "ok"), ("longest ann", "2"), ("gone ann", "3"),
                         ("program own; else: none", "ok"), ("longest bob", "0"), ("gone bob", "-"))


class Refused(ConsoleTests):
    def test_no_book(self):
        for value in [*STRANGE, str(BOOK), (BOOK,), Book, Desk(BOOK)]:
            for call in (lambda: Console(value), lambda: Console(book=value)):
                with self.assertRaises(NotABook) as caught:
                    call()
                self.assertIs(value, caught.exception.given)

    def test_no_string(self):
        held = Console(BOOK)
        for value in [*STRANGE, b"book", ("book",), ["clear"], BOOK]:
            self.assert_is_none(held, value)

    def test_other_lines(self):
        held = Console(BOOK)
        for line in ("", " ", "Book", "BOOK", "books", "boo", "book ann", "undo 1", "undo undo", "clear ann",
                     "clear clear",
                     "program", "signs", "programown; else: >", "signs>>", "Program own; else: >", "claim",
                     "claim clear ann",
                     "claim kept", "claim kept ann bob", "claim within ann", "claim within 2", "claim within ann 2 3",
                     "claim tells ann >", "claim tells ann > bob ann", "claim never ann", "claim undo",
                     "claim within ann bob",
                     "who", "who ann", "who > ann", "who ann > bob", "who ann bob", "who none", "behind ann ann",
                     "behind ann >", "behind ann > ann", "behind ann ann > >", "longest", "longest ann bob",
                     "longest >",
                     "gone", "gone ann 1", "gone 1", "answers", "lift 0", "help", "say book", "none", "-", "ok", "yes",
                     "kept ann", "within ann 2", "tells ann > bob", "behind ann none ann", "claim clear clear"):
            self.assert_is_none(held, line)

    def test_doubled_spaces_spaces_at_the_ends_and_newlines(self):
        held = Console(BOOK)
        for line in LINES:
            self.assert_is_none(held, " " + line)
            self.assert_is_none(held, "\n" + line)
            self.assert_is_none(held, line + "\n")
            self.assert_is_none(held, line.replace(" ", "\n", 1) if " " in line else line + "\nbook")
            if not line.startswith(("program ", "signs ")):
                self.assert_is_none(held, line + " ")
                for at, letter in enumerate(line):
                    if letter == " ":
                        self.assert_is_none(held, line[:at] + " " + line[at:])
                        self.assert_is_none(held, line[:at] + line[at + 1:])
        self.assert_is_none(held, "program own; else: >\n")
        self.assert_is_none(held, "program own\nelse: >")
        self.assert_is_none(held, "signs >\n>")

    def test_numbers(self):
        held = Console(BOOK.with_answers(()))
        for many in range(21):
            self.assertEqual("ok", held.say(f"claim within ann {many}"))
        for word in ("21", "00", "01", "020", "-1", "-0", "+1", "100", "2.0", "1e1", "1_0", "x", "none", "True", "-",
                     ""):
            self.assert_is_none(held, f"claim within ann {word}")
            self.assert_is_none(held, f"claim within eve {word}")

    def test_names(self):
        held = Console(BOOK)
        for word in ("Ann", "aNN", "abcdefghi", "1ann", "ann1_", "an-n", ">", "@", "", "a.b"):
            for line in ("claim kept {}", "claim within {} 2", "claim tells {} > ann", "claim tells ann > {}",
                         "who {} >",
                         "behind {} ann >", "behind ann {} >", "longest {}", "gone {}"):
                self.assert_is_none(held, line.format(word))
        for word in ("a", "z9999999", "abcdefgh", "eve"):
            for line in ("claim kept {}", "claim within {} 2", "claim tells {} > ann", "claim tells ann > {}",
                         "who {} >",
                         "behind {} ann >", "behind ann {} >", "longest {}", "gone {}"):
                self.assertEqual("UnknownPerson", held.say(line.format(word)))

    def test_marks(self):
        held = Console(BOOK)
        for word in ("@", "a", "None", "NONE", ">a", ">_", "_", "-", ">>none", "nonenone", ""):
            for line in ("claim tells ann {} ann", "who ann {}", "behind ann ann {}"):
                self.assert_is_none(held, line.format(word))

    def test_changed_lines(self):
        """All lines with a character more, less or another one: none of them is answered in any other way."""
        held = Console(BOOK)
        words = ("program", "signs", "undo", "claim", "who", "behind", "clear", "longest", "gone", "book")
        for line in LINES:
            for text in changed(line):
                try:
                    held.say(text)
                except InvalidText:
                    continue
                self.assertIn(text.split(" ")[0], words)
                self.assertNotIn("\n", text)
                if not text.startswith(("program ", "signs ")):
                    self.assertNotIn("", text.split(" "))


class Equality(ConsoleTests):
    def test_true_and_equal_to_itself_alone(self):
        held = Console(BOOK)
        self.assertTrue(held)
        self.assertTrue(held == held)
        self.assertFalse(held != held)
        for value in (Console(BOOK), BOOK, Desk(BOOK), None, "book"):
            self.assertFalse(held == value)
            self.assertTrue(held != value)

    def test_the_interface_is_defined_in_its_file(self):
        self.assertEqual("quotedthreads.console", Console.__module__)
        self.assertIs(Console, console.Console)
        for name in ("__init__", "say"):
            self.assertIn(name, vars(Console))


class Desks(ConsoleTests):
    """A console against a desk for which the same is done."""

    def done(self, change):
        try:
            change()
        except (NotRight, NotThere, CannotBe) as error:
            return error.__class__.__name__
        return "ok"

    def told(self, tell):
        try:
            return tell()
        except NotThere as error:
            return error.__class__.__name__

    def number(self, value):
        return "-" if value is None else str(value)

    def step(self, draw, desk):
        """A line and what it should answer."""
        book = desk.book
        name, other = draw.choice((*book.names, "eve")), draw.choice(book.names)
        marks = "".join([draw.choice(book.signs) for _ in range(draw.randint(0, 2))])
        word, many = marks or "none", draw.randint(0, 5)
        kind = draw.randint(0, 9)
        if kind == 0:
            program = drawn_program(draw, draw.choice("pqr"), book.signs, 0.2, (0, 1, 2))
            return str(program).replace("\n", "; "), self.done(lambda: desk.put_program(program))
        if kind == 1:
            signs = "".join([draw.choice(book.signs) for _ in range(len(book.names) + (draw.random() < 0.1))])
            return "signs " + signs, self.done(lambda: desk.put_signs(tuple(signs)))
        if kind == 2:
            return "undo", self.done(desk.undo)
        if kind == 3:
            claim, line = draw.choice((
                (("clear",), "claim clear"), (("kept", name), f"claim kept {name}"),
                (("within", name, many), f"claim within {name} {many}"),
                (("tells", name, marks, other), f"claim tells {name} {word} {other}"),
            ))
            return line, self.done(lambda: desk.claim(claim))
        if kind == 4:
            return f"who {name} {word}", self.told(lambda: " ".join(can_be(book, name, marks)) or "-")
        if kind == 5:
            def numbers():
                told = behind(book, name, other, marks)
                return "-" if told is None else f"{told[0]} {self.number(told[1])}"

            return f"behind {name} {other} {word}", self.told(numbers)
        if kind == 6:
            told = confusion(book)
            return "clear", "yes" if told is None else " ".join([told[0] or "none", *told[1:]])
        if kind == 7:
            return f"longest {name}", self.told(lambda: self.number(longest(book, name)))
        if kind == 8:
            return f"gone {name}", self.told(lambda: self.number(gone_after(book, name)))
        return "book", str(book)

    def test_drawn_lines(self):
        draw = random.Random(1)
        answers = []
        for _ in range(40):
            book = drawn_book(draw, draw.choice((1, 2, 3)), 2, lengths=(0, 1, 1, 2))
            held, desk = Console(book), Desk(book)
            for _ in range(30):
                line, answer = self.step(draw, desk)
                self.assert_says(held, (line, answer))
                answers.append(answer)
            while desk.changes > 0:
                desk.undo()
                self.assert_says(held, ("undo", "ok"), ("book", str(desk.book)))
            self.assert_says(held, ("undo", "NothingToUndo"), ("book", str(book)))
        for answer in ("ok", "-", "yes", "Broken", "UnknownPerson", "UnknownProgram", "InvalidSigns", "NothingToUndo"):
            self.assertGreater(answers.count(answer), 3, answer)
