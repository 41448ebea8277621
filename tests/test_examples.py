import doctest
import pathlib
import unittest

PROGRAMS = '''
>>> from quotedthreads.programs import Program, unlike
>>> two = Program("two", ((">>", False, ">>"), ("", False, ">")))
>>> [two.treat("", "|"), two.treat(">", "|"), two.treat(">>", "|"), two.treat("|>>", "|"), two.taken(">>>")]
['>', '>>', '>>', '>|>>', 0]
>>> signed = Program("signed", (("", True, "@"), ("", False, ">")))
>>> [signed.treat("", "|"), signed.treat("|", "|"), unlike(two, signed), str(signed), repr(two)]
['|', '>|', ('', '#'), 'program signed\\nonly: @\\nelse: >', 'Program two of 2 cases']
'''

BOOKS = '''
>>> from quotedthreads.books import Book
>>> from quotedthreads.programs import Program
>>> two = Program("two", ((">>", False, ">>"), ("", False, ">")))
>>> book = Book((("ann", ">"), ("bob", "|")), (two,), (("bob", "two", "ann"),))
>>> [book.names, book.signs, book.own("bob"), book.with_signs(("#", ":")).signs, repr(book), str(book)]
[('ann', 'bob'), '>|', '|', '#:>', 'Book of 2 people', \
'person ann >\\nperson bob |\\nprogram two\\nbegin >>: >>\\nelse: >\\nanswer bob two ann']
'''

THREADS = '''
>>> from quotedthreads.books import Book
>>> from quotedthreads.threads import led, possible
>>> book = Book.read("person ann >\\nperson bob |\\nprogram plain\\nelse: >\\nprogram two\\n\
begin >>: >>\\nelse: >\\nanswer bob plain ann\\nanswer ann two bob")
>>> [led(book, "ann", (("bob", "plain"), ("ann", "two"), ("bob", "plain"))), possible(book, "ann")]
[(('ann', ''), ('bob', '>'), ('ann', '>>'), ('bob', '>>>')), (('bob', 'plain'),)]
'''

MAILS = '''
>>> from quotedthreads.books import Book
>>> from quotedthreads.mails import Mail
>>> book = Book.read("person ann >\\nperson bob |\\nprogram two\\nbegin >>: >>\\nonly: @\\nelse: >\\n\
answer bob two ann\\nanswer ann two bob")
>>> mail = Mail(book, "ann", ("hi", "lunch?")).answered("bob", "two", ("yes",)).answered("ann", "two", left=(1,))
>>> [str(mail), mail.writers, mail.lines, repr(mail)]
['| yes\\n>> lunch?', ('bob', 'ann'), (('|', 'yes'), ('>>', 'lunch?')), 'Mail of 2 lines from ann']
'''

NUMBERS = '''
>>> from quotedthreads.books import Book
>>> from quotedthreads.numbers import behind, longest, shortest
>>> from quotedthreads.telling import can_be, clear, confusion
>>> book = Book.read("person ann >\\nperson bob |\\nprogram two\\nbegin >>: >>\\nelse: >\\n\
answer bob two ann\\nanswer ann two bob")
>>> [clear(book), confusion(book), can_be(book, "ann", ">"), can_be(book, "ann", ">>")]
[False, ('>>', 'ann', 'ann', 'bob'), ('bob',), ('ann', 'bob')]
>>> [behind(book, "ann", "ann", ">>"), behind(book, "bob", "ann", ">>"), behind(book, "ann", "bob", ">"), \
behind(book, "ann", "ann", ">"), longest(book, "ann")]
[(2, None), (3, None), (1, 1), None, 2]
>>> shortest(book, "bob", "ann", ">>")
(('ann', 'two'), ('bob', 'two'), ('ann', 'two'))
'''

TEXT = """program two
begin >>: >>
only: @
only >: |>
begin #: gone
else: >"""


class Examples(unittest.TestCase):
    def assert_runs(self, text, name, least):
        test = doctest.DocTestParser().get_doctest(text, {}, name, name, 0)
        told = []
        result = doctest.DocTestRunner(verbose=False).run(test, out=told.append)
        self.assertEqual(0, result.failed, "".join(told))
        self.assertGreaterEqual(result.attempted, least)

    def test_programs_as_the_document_shows_them(self):
        self.assert_runs(PROGRAMS, "programs", 5)

    def test_books_as_the_document_shows_them(self):
        self.assert_runs(BOOKS, "books", 5)

    def test_threads_as_the_document_shows_them(self):
        self.assert_runs(THREADS, "threads", 4)

    def test_mails_as_the_document_shows_them(self):
        self.assert_runs(MAILS, "mails", 5)

    def test_numbers_as_the_document_shows_them(self):
        self.assert_runs(NUMBERS, "numbers", 7)

    def test_the_text_that_the_document_shows(self):
        from quotedthreads.programs import Program

        self.assertEqual(TEXT, str(Program.read(TEXT)))
        self.assertEqual("Program two of 5 cases", repr(Program.read(TEXT)))

    def test_readme(self):
        readme = pathlib.Path(__file__).parent.parent / "README.md"
        self.assert_runs(readme.read_text().replace("```", ""), "README.md", 5)
