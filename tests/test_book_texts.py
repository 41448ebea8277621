import re
import unittest

from quotedthreads.books import Book
from quotedthreads.errors import InvalidText
from quotedthreads.programs import Program
from tests.test_books import many_books
from tests.values import ELSE, NO_NAMES, NO_SIGNS, STRANGE, changed

TEXT = """person ann >
person bob |
program plain
else: >
program two
begin >>: >>
only: @
only >: |>
begin #: gone
else: none
answer bob two ann
answer ann plain bob
answer ann plain ann"""

NAME = "([a-z][a-z0-9]{0,7})"
PERSON = f"person {NAME} ([#*+:=>|])"
HEAD = "(?:begin ([#*+:=>|]{1,2})|only ([#*+:=>|])|only)"
PUT = "(gone|none|[#*+:=>|@]{1,3})"
PROGRAM = f"program {NAME}\n(?:{HEAD}: {PUT}\n){{0,4}}else: {PUT}"
ANSWER = f"answer {NAME} {NAME} {NAME}"
RIGHT = re.compile(f"{PERSON}(?:\n{PERSON}){{0,3}}(?:\n{PROGRAM}){{1,4}}(?:\n{ANSWER}){{0,8}}")


def is_right(text):
    """Whether this is the text of a book, as [7], [8] and [9] tell it."""
    if not RIGHT.fullmatch(text):
        return False
    people, programs, answers, signs = [], [], [], ""
    for row in text.split("\n"):
        if found := re.fullmatch(PERSON, row):
            people.append(found[1])
            signs += found[2]
        elif found := re.fullmatch(f"program {NAME}", row):
            programs.append(found[1])
        elif found := re.fullmatch(ANSWER, row):
            answers.append(found.groups())
        else:
            begin, only, put = re.fullmatch(f"(?:{HEAD}|else): {PUT}", row).groups()
            signs += (begin or "") + (only or "") + (put if put not in ("gone", "none") else "")
    for rows in (people, programs, answers):
        if len(set(rows)) < len(rows):
            return False
    known = [who in people and program in programs and whom in people for who, program, whom in answers]
    return all(known) and len(set(signs) - {"@"}) <= 4


class Read(unittest.TestCase):
    def assert_right(self, text):
        book = Book.read(text)
        self.assertEqual(text, str(book))
        again = Book.read(str(book))
        self.assertEqual(
            (book.people, book.programs, book.answers), (again.people, again.programs, again.answers)
        )

    def test_each_part(self):
        book = Book.read(TEXT)
        cases = ((">>", False, ">>"), ("", True, "@"), (">", True, "|>"), ("#", False, None), ("", False, ""))
        self.assertEqual((("ann", ">"), ("bob", "|")), book.people)
        self.assertEqual((Program("plain", (ELSE,)), Program("two", cases)), book.programs)
        self.assertEqual((("bob", "two", "ann"), ("ann", "plain", "bob"), ("ann", "plain", "ann")), book.answers)
        self.assertEqual("#>|", book.signs)
        self.assertEqual(TEXT, str(book))
        self.assertEqual("Book of 2 people", repr(book))
        self.assertIs(Book, book.__class__)
        self.assertEqual(Book(book.people, book.programs, book.answers), book)
        self.assertEqual(book, Book.read(text=TEXT))
        self.assertEqual(book, book.read(TEXT))

    def test_kinds_of_values(self):
        book = Book.read(TEXT)
        for value in (book.people, book.programs, book.answers, *book.people, *book.answers):
            self.assertIs(tuple, value.__class__)

    def test_read_and_written_again(self):
        for book in many_books():
            self.assertTrue(is_right(str(book)))
            self.assert_right(str(book))
            self.assertEqual(book, Book.read(str(book)))

    def test_the_shortest(self):
        book = Book.read("person a :\nprogram a\nelse: gone")
        self.assertEqual(((("a", ":"),), ()), (book.people, book.answers))

    def test_people_who_are_called_as_the_words_of_texts_are(self):
        words = ("person", "program", "answer", "begin", "only", "else", "gone", "none")
        for name in (*words, "persons", "perso", "answer2", "else1", "beginner", "onlyone", "programs", "nones"):
            self.assert_right(
                f"person {name} >\nperson {name[:3]} :\nprogram {name}\nbegin ::: ::\nonly: gone\nelse: none\n"
                f"answer {name} {name} {name}\nanswer {name[:3]} {name} {name}"
            )
            self.assert_right(f"person x >\nprogram {name}\nelse: >\nprogram {name[:3]}\nelse: >\nanswer x {name} x")
        for k in (0, 4):
            text = "\n".join([f"person {name} >" for name in words[k:k + 4]])
            text += "".join([f"\nprogram {name}\nelse: >" for name in words[k:k + 4]])
            for one, other in zip(words[k:k + 4], words[k + 1:k + 4]):
                text += f"\nanswer {one} {other} {other}\nanswer {other} {one} {other}"
            self.assert_right(text)

    def test_all_colons(self):
        self.assert_right("person a :\nprogram p\nbegin ::: :::\nonly :: :\nbegin :: gone\nelse: :\nanswer a p a")


class Refused(unittest.TestCase):
    def assert_no_text(self, text):
        with self.assertRaises(InvalidText, msg=repr(text)) as caught:
            Book.read(text)
        self.assertIs(text, caught.exception.given)

    def assert_as_told(self, text):
        if isinstance(text, str) and is_right(text):
            self.assertEqual(text, str(Book.read(text)))
        else:
            self.assert_no_text(text)

    def test_no_strings(self):
        rows = TEXT.split("\n")
        for value in [*STRANGE, TEXT.encode(), rows, tuple(rows), (TEXT,), Book.read(TEXT)]:
            self.assert_no_text(value)

    def test_by_name(self):
        with self.assertRaises(InvalidText) as caught:
            Book.read(text="person ann >")
        self.assertEqual("person ann >", caught.exception.given)

    def test_no_rows_and_parts_alone(self):
        rows = TEXT.split("\n")
        for text in ("", "\n", " ", "person", "program", "answer", "person ann >", "program two\nelse: >", "else: >"):
            self.assert_no_text(text)
        for at in range(len(rows)):
            self.assert_as_told("\n".join(rows[:at]))
            self.assert_as_told("\n".join(rows[at:]))
        self.assert_no_text(TEXT + "\n" + TEXT)
        self.assert_no_text("\n".join(rows[::-1]))
        self.assert_no_text("\n".join(sorted(rows)))

    def test_rows_too_few_doubled_moved_and_exchanged(self):
        rows = TEXT.split("\n")
        for one in range(len(rows)):
            less = rows[:one] + rows[one + 1:]
            self.assert_as_told("\n".join(less))
            for other in range(len(rows)):
                self.assert_as_told("\n".join([*less[:other], rows[one], *less[other:]]))
                self.assert_as_told("\n".join([*rows[:other], rows[one], *rows[other:]]))
                exchanged = list(rows)
                exchanged[one], exchanged[other] = rows[other], rows[one]
                self.assert_as_told("\n".join(exchanged))
        # Two rows exchanged may be a text, too, but that of another book.
        self.assertTrue(is_right("\n".join([rows[1], rows[0], *rows[2:]])))

    def test_rows_too_many(self):
        rows = TEXT.split("\n")
        for row in ("", " ", "person eve >", "program three\nelse: >", "program three", "answer bob plain ann", "x",
                    "else: >", "begin >: >", "only: >", "persons eve >", "answers bob two ann", "programs x\nelse: >"):
            for at in range(len(rows) + 1):
                self.assert_as_told("\n".join([*rows[:at], row, *rows[at:]]))

    def test_a_fifth_person_and_program_a_sixth_case_and_a_ninth_answer(self):
        people = [f"person p{k} >" for k in range(5)]
        programs = [f"program q{k}\nelse: >" for k in range(5)]
        answers = [f"answer p{k // 3} q0 p{k % 3}" for k in range(9)]
        self.assertTrue(is_right("\n".join([*people[:4], *programs[:4], *answers[:8]])))
        self.assert_as_told("\n".join([*people[:4], *programs[:4], *answers[:8]]))
        self.assert_no_text("\n".join([*people, *programs[:4], *answers[:8]]))
        self.assert_no_text("\n".join([*people[:4], *programs, *answers[:8]]))
        self.assert_no_text("\n".join([*people[:4], *programs[:4], *answers]))
        self.assert_as_told("person ann >\nprogram p\n" + "only: >\n" * 4 + "else: >")
        self.assert_no_text("person ann >\nprogram p\n" + "only: >\n" * 5 + "else: >")

    def test_too_many_signs(self):
        four = "person ann #\nperson bob *\nprogram p\nbegin +: @\nelse: :"
        self.assertEqual("#*+:", Book.read(four).signs)
        for text in (
            four.replace("bob *", "bob *\nperson cid >"), four.replace("@", "@>"), four.replace("+:", "+=:"),
            four.replace("else: :", "else: :|="), four + "\nprogram q\nelse: >",
            four.replace("begin", "only =: @\nbegin"),
        ):
            self.assertTrue(RIGHT.fullmatch(text))
            self.assert_no_text(text)
            self.assert_no_text(text + "\nanswer bob p ann")

    def test_parts_that_are_not_valid(self):
        for name in NO_NAMES:
            self.assert_no_text(TEXT.replace("person ann", f"person {name}"))
            self.assert_no_text(TEXT.replace("ann", name))
            self.assert_no_text(TEXT.replace("program plain", f"program {name}"))
            self.assert_no_text(TEXT.replace("plain", name))
            self.assert_no_text(TEXT.replace("answer ann plain ann", f"answer ann plain {name}"))
        for sign in NO_SIGNS:
            self.assert_no_text(TEXT.replace("bob |", f"bob {sign}"))
        for text in (
            TEXT.replace("bob two ann", "bob two eve"), TEXT.replace("bob two ann", "eve two ann"),
            TEXT.replace("bob two ann", "bob three ann"), TEXT.replace("bob two ann", "bob two"),
            TEXT.replace("bob two ann", "bob two ann ann"), TEXT.replace("bob two ann", "ann plain bob"),
            TEXT.replace("program plain", "program two"), TEXT.replace("person bob", "person ann"),
            TEXT.replace("begin #: gone", "begin #: Gone"), TEXT.replace("else: none", "else: "),
            TEXT.replace("else: none\n", ""), TEXT.replace("only >: |>", "only >>: |>"),
        ):
            self.assert_no_text(text)

    def test_spaces_and_newlines_more_or_less(self):
        for text in (
            TEXT + "\n", "\n" + TEXT, " " + TEXT, TEXT + " ", TEXT.replace("\n", "; "), TEXT.replace(" ", "  "),
            TEXT.replace("\n", " \n"), TEXT.replace("\n", "\n "), TEXT.replace("\n", "\n\n"), TEXT.replace(" ", ""),
            TEXT.replace("\n", ""), TEXT.replace("person ", "person\n"), TEXT.replace(" >\n", " > \n"),
            TEXT.replace(": ", ":"), TEXT.replace(":", " :"), TEXT.replace("answer bob", "answer  bob"),
        ):
            self.assert_no_text(text)

    def test_rows_that_are_written_otherwise(self):
        rows = TEXT.split("\n")
        for at, row in enumerate(rows):
            word = row.split(" ")[0]
            plural, colons = row.replace(word, word + "s"), row.replace(" ", ": ")
            for other in (row.upper(), row.title(), plural, colons, row + ":", ":" + row):
                self.assert_as_told("\n".join([*rows[:at], other, *rows[at + 1:]]))

    def test_every_small_change(self):
        for text in (
            TEXT,
            "person a >\nprogram b\nelse: gone",
            "person a :\nprogram p\nbegin ::: :\nelse: :\nanswer a p a",
        ):
            self.assertTrue(is_right(text))
            for other in changed(text):
                self.assert_as_told(other)
