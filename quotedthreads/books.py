"""Books: people, programs, and who may answer whom with which program."""

from quotedthreads.errors import (
    InvalidAnswers,
    InvalidPeople,
    InvalidPrograms,
    InvalidSigns,
    InvalidText,
    NotABook,
    NotRight,
    TooManySigns,
    UnknownPerson,
    UnknownProgram,
)
from quotedthreads.forms import are_strings, is_name, is_sign
from quotedthreads.limits import MOST_ANSWERS, MOST_PEOPLE, MOST_PROGRAMS, MOST_SIGNS, SIGNS
from quotedthreads.programs import Program


class Book:
    """A book has people (name, sign), programs, and answers (who, program, whom)."""

    def __init__(self, people, programs, answers):
        _check_people(people)
        _check_programs(programs)
        owns = {name: sign for name, sign in people}
        named = {program.name: program for program in programs}
        _check_answers(answers, owns, named)
        signs = _signs_of(people, programs)
        if len(signs) > MOST_SIGNS:
            raise TooManySigns(len(signs))
        self._people = people
        self._programs = programs
        self._answers = answers
        self._signs = signs
        self._owns = owns
        self._named = named
        self._results = {}

    @classmethod
    def read(cls, text):
        """The book with this text."""
        if not isinstance(text, str):
            raise InvalidText(text)
        people, programs, answers = _parts_of(text)
        try:
            book = cls(people, tuple([Program.read(part) for part in programs]), answers)
        except (NotRight, TooManySigns):
            raise InvalidText(text) from None
        # Rows are taken by their first words, wherever they stand: this tells what is off.
        if str(book) != text:
            raise InvalidText(text)
        return book

    @property
    def people(self):
        return self._people

    @property
    def programs(self):
        return self._programs

    @property
    def answers(self):
        return self._answers

    @property
    def names(self):
        return tuple(self._owns)

    @property
    def signs(self):
        return self._signs

    def own(self, name):
        """The own sign of a person."""
        check_person(self, name)
        return self._owns[name]

    def program(self, name):
        """The program with this name."""
        if not isinstance(name, str) or name not in self._named:
            raise UnknownProgram(name)
        return self._named[name]

    def with_program(self, program):
        """The book in which this program stands in the place of the one with its name."""
        if not isinstance(program, Program) or program.name not in self._named:
            raise UnknownProgram(program)
        programs = [program if known.name == program.name else known for known in self._programs]
        return Book(self._people, tuple(programs), self._answers)

    def with_signs(self, signs):
        """The book in which the people have these own signs, in their order."""
        if not isinstance(signs, tuple) or len(signs) != len(self._people):
            raise InvalidSigns(None)
        for index, sign in enumerate(signs):
            if not is_sign(sign):
                raise InvalidSigns(index)
        return Book(tuple(zip(self.names, signs)), self._programs, self._answers)

    def with_answers(self, answers):
        """The book with these answers in the place of its own."""
        return Book(self._people, self._programs, answers)

    def once(self, work):
        """What this function returns for the book. It is called once only: a book stays what it is."""
        if work not in self._results:
            self._results[work] = work(self)
        return self._results[work]

    def __eq__(self, other):
        # Texts are equal exactly if these are: each part is written in one way only.
        return (
            isinstance(other, Book)
            and self._people == other._people
            and self._programs == other._programs
            and self._answers == other._answers
        )

    def __str__(self):
        people = [f"person {name} {sign}" for name, sign in self._people]
        programs = [str(program) for program in self._programs]
        answers = [f"answer {who} {program} {whom}" for who, program, whom in self._answers]
        return "\n".join([*people, *programs, *answers])

    def __repr__(self):
        return f"Book of {len(self._people)} people"


def check_book(book):
    if not isinstance(book, Book):
        raise NotABook(book)


def check_person(book, name):
    if not isinstance(name, str) or name not in book.names:
        raise UnknownPerson(name)


def _check_people(people):
    if not isinstance(people, tuple) or len(people) == 0:
        raise InvalidPeople(None)
    names = []
    for index, value in enumerate(people):
        if index >= MOST_PEOPLE or not _is_person(value) or value[0] in names:
            raise InvalidPeople(index)
        names.append(value[0])


def _check_programs(programs):
    if not isinstance(programs, tuple) or len(programs) == 0:
        raise InvalidPrograms(None)
    names = []
    for index, value in enumerate(programs):
        if index >= MOST_PROGRAMS or not isinstance(value, Program) or value.name in names:
            raise InvalidPrograms(index)
        names.append(value.name)


def _check_answers(answers, people, programs):
    """Checks that there are only answers of people and programs with the names that are the keys here."""
    if not isinstance(answers, tuple):
        raise InvalidAnswers(None)
    for index, value in enumerate(answers):
        if index >= MOST_ANSWERS or not _is_answer(value, people, programs) or value in answers[:index]:
            raise InvalidAnswers(index)


def _is_person(value):
    return are_strings(value, 2) and is_name(value[0]) and is_sign(value[1])


def _is_answer(value, people, programs):
    return are_strings(value, 3) and value[0] in people and value[1] in programs and value[2] in people


def _signs_of(people, programs):
    """The string of all unlike signs, in their order."""
    strings = [sign for _, sign in people]
    for program in programs:
        for begin, _, put in program.cases:
            strings.extend([begin, put or ""])
    together = "".join(strings)
    return "".join([sign for sign in SIGNS if sign in together])


def _parts_of(text):
    """The people, the texts of programs and the answers that the rows of a text tell, if it is one."""
    people, programs, answers = [], [], []
    for row in text.split("\n"):
        word, _, rest = row.partition(" ")
        if word == "person":
            people.append(tuple(rest.split(" ")))
        elif word == "answer":
            answers.append(tuple(rest.split(" ")))
        elif word == "program":
            programs.append([row])
        elif programs:
            programs[-1].append(row)
    return (tuple(people), ["\n".join(rows) for rows in programs], tuple(answers))
