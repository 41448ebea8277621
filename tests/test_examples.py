import doctest
import pathlib
import unittest

PROGRAMS = '''
>>> from quotedthreads.programs import Program, unlike
>>> two = Program("two", ((">>", False, ">>"), ("", False, ">")))
>>> [two.treat("", "|"), two.treat(">", "|"), two.treat(">>", "|"), two.treat("|>>", "|"), two.taken(">>>")]
['>', '>>', '>>', '>|>>', 0]
>>> signed = Program("signed", (("", True, "@"), ("", False, ">")))
>>> [signed.treat("", "|"), signed.treat("|", "|"), unlike(two, signed), str(signed), repr(two)]
['|', '>|', ('', '#'), 'program signed\\nonly: @\\nelse: >', 'Program two of 2 cases']
'''

TEXT = """program two
begin >>: >>
only: @
only >: |>
begin #: gone
else: >"""


class Examples(unittest.TestCase):
    def assert_runs(self, text, name, least):
        test = doctest.DocTestParser().get_doctest(text, {}, name, name, 0)
        told = []
        result = doctest.DocTestRunner(verbose=False).run(test, out=told.append)
        self.assertEqual(0, result.failed, "".join(told))
        self.assertGreaterEqual(result.attempted, least)

    def test_programs_as_the_document_shows_them(self):
        self.assert_runs(PROGRAMS, "programs", 5)

    def test_the_text_that_the_document_shows(self):
        from quotedthreads.programs import Program

        self.assertEqual(TEXT, str(Program.read(TEXT)))
        self.assertEqual("Program two of 5 cases", repr(Program.read(TEXT)))

    def test_readme(self):
        readme = pathlib.Path(__file__).parent.parent / "README.md"
        self.assert_runs(readme.read_text().replace("```", ""), "README.md", 5)
