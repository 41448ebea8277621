import random
import unittest

from quotedthreads import desks
from quotedthreads.books import Book
from quotedthreads.desks import Desk
from quotedthreads.errors import (
    Broken,
    CannotBe,
    InvalidAnswers,
    InvalidClaim,
    InvalidPlace,
    InvalidSigns,
    NotABook,
    NothingToUndo,
    NotRight,
    NotThere,
    TooManySigns,
    UnknownPerson,
    UnknownProgram,
)
from quotedthreads.numbers import gone, gone_after, longer, longest
from quotedthreads.programs import Program
from quotedthreads.telling import can_be, clear, confusion
from tests.values import NO_NAMES, STRANGE, EqualToAll
from tests.walks import drawn_book, drawn_program

BOOK = Book.read("""person ann >
person bob |
program own
else: @
program more
else: #
answer bob own ann
answer ann own bob""")
PLAIN = Program.read("program own\nelse: >")
TWO = Program.read("program own\nbegin >>: >>\nelse: >")
GONE = Program.read("program own\nonly: @\nelse: gone")
KEEPS = Program.read("program own\nonly: @\nelse: none")
# Each of these holds for the book.
CLAIMS = (("clear",), ("kept", "ann"), ("kept", "bob"), ("tells", "ann", "|", "bob"), ("tells", "ann", "|>", "ann"),
          ("tells", "bob", "#", "ann"), ("tells", "bob", "", "bob"))


def state_of(desk):
    return (str(desk.book), desk.claims, desk.changes)


def holds(book, claim):
    if claim[0] == "clear":
        return clear(book)
    if claim[0] == "kept":
        return gone_after(book, claim[1]) is None
    if claim[0] == "within":
        most = longest(book, claim[1])
        return most is not None and most <= claim[2]
    return set(can_be(book, claim[1], claim[2])) <= {claim[3]}


def shown_against(book, claim):
    if claim[0] == "clear":
        return confusion(book)
    if claim[0] == "kept":
        return gone(book, claim[1])
    if claim[0] == "within":
        return longer(book, claim[1], claim[2])
    return can_be(book, claim[1], claim[2])


class DeskTests(unittest.TestCase):
    def assert_state(self, desk, book, claims, changes):
        self.assertEqual((book, claims, changes), (desk.book, desk.claims, desk.changes))
        self.assertIs(tuple, desk.claims.__class__)

    def assert_raises_and_stays(self, desk, error, call, **attributes):
        before = (desk.book, state_of(desk))
        with self.assertRaises(error) as caught:
            call()
        self.assertIs(error, caught.exception.__class__)
        for name, value in attributes.items():
            self.assertEqual(value, getattr(caught.exception, name))
            self.assertIs(value.__class__, getattr(caught.exception, name).__class__)
        self.assertIs(before[0], desk.book)
        self.assertEqual(before[1], state_of(desk))
        return caught.exception


class Made(DeskTests):
    def test_no_claims_no_changes_and_the_book(self):
        for desk in (Desk(BOOK), Desk(book=BOOK)):
            self.assert_state(desk, BOOK, (), 0)
            self.assertIs(BOOK, desk.book)
        self.assertIs(False, clear(Desk(BOOK.with_program(TWO)).book))

    def test_no_book(self):
        for value in [*STRANGE, str(BOOK), (BOOK,), Book, Desk(BOOK)]:
            for call in (lambda: Desk(value), lambda: Desk(book=value)):
                with self.assertRaises(NotABook) as caught:
                    call()
                self.assertIs(value, caught.exception.given)

    def test_true_and_equal_to_itself_alone(self):
        desk, other = Desk(BOOK), Desk(BOOK)
        self.assertTrue(desk)
        self.assertTrue(desk == desk)
        self.assertFalse(desk != desk)
        self.assertFalse(desk == other)
        self.assertTrue(desk != other)
        for value in (BOOK, None, (), str(BOOK), 0, Desk):
            self.assertFalse(desk == value)
            self.assertTrue(desk != value)
        trial = desk.trial()
        self.assertTrue(trial)
        self.assertTrue(trial == trial)
        self.assertFalse(trial != trial)
        self.assertFalse(trial == desk.trial())
        self.assertTrue(trial != desk.trial())
        self.assertFalse(trial == desk)

    def test_nothing_of_it_can_be_assigned(self):
        desk = Desk(BOOK)
        for name in ("book", "claims", "changes"):
            with self.assertRaises(AttributeError):
                setattr(desk, name, None)
        self.assert_state(desk, BOOK, (), 0)

    def test_the_interface_is_defined_in_its_file(self):
        self.assertEqual("quotedthreads.desks", Desk.__module__)
        self.assertIs(Desk, desks.Desk)
        for name in ("__init__", "put_program", "put_signs", "put_answers", "claim", "lift", "undo", "book", "claims",
                     "changes", "trial", "tried"):
            self.assertIn(name, vars(Desk))


class Puttings(DeskTests):
    def test_the_book_becomes_what_the_book_returns(self):
        desk = Desk(BOOK)
        self.assertIsNone(desk.put_program(TWO))
        self.assert_state(desk, BOOK.with_program(TWO), (), 1)
        self.assertIsNone(desk.put_signs(("=", ":")))
        self.assert_state(desk, BOOK.with_program(TWO).with_signs(("=", ":")), (), 2)
        self.assertIsNone(desk.put_answers(BOOK.answers[:1]))
        self.assert_state(
            desk, BOOK.with_program(TWO).with_signs(("=", ":")).with_answers(BOOK.answers[:1]), (), 3)
        self.assertEqual("answer bob own ann", str(desk.book).split("\n")[-1])

    def test_by_name(self):
        desk = Desk(BOOK)
        desk.put_program(program=TWO)
        desk.put_signs(signs=("=", ":"))
        desk.put_answers(answers=())
        self.assert_state(desk, BOOK.with_program(TWO).with_signs(("=", ":")).with_answers(()), (), 3)

    def test_what_is_put_may_be_what_is_there(self):
        desk = Desk(BOOK)
        desk.put_program(BOOK.program("own"))
        desk.put_signs((">", "|"))
        desk.put_answers(BOOK.answers)
        self.assert_state(desk, BOOK, (), 3)

    def test_the_errors_of_the_book(self):
        desk = Desk(BOOK)
        desk.claim(("clear",))
        for value in [*STRANGE, "own", str(TWO), Program.read("program none\nelse: >"), BOOK]:
            error = self.assert_raises_and_stays(desk, UnknownProgram, lambda: desk.put_program(value))
            self.assertIs(value, error.given)
        for value in [value for value in STRANGE if not isinstance(value, tuple)]:
            self.assert_raises_and_stays(desk, InvalidSigns, lambda: desk.put_signs(value), index=None)
            self.assert_raises_and_stays(desk, InvalidAnswers, lambda: desk.put_answers(value), index=None)
        self.assert_raises_and_stays(desk, InvalidSigns, lambda: desk.put_signs((">",)), index=None)
        self.assert_raises_and_stays(desk, InvalidSigns, lambda: desk.put_signs((">", "@")), index=1)
        self.assert_raises_and_stays(
            desk, InvalidAnswers, lambda: desk.put_answers((BOOK.answers[0], ("bob", "p", "ann"))), index=1)
        many = Program.read("program own\nonly: =\nelse: +")
        self.assert_raises_and_stays(desk, TooManySigns, lambda: desk.put_program(many), many=5)
        desk.put_program(Program.read("program more\nonly: #\nelse: *"))
        self.assert_raises_and_stays(desk, TooManySigns, lambda: desk.put_program(many), many=6)
        desk.put_signs(("#", "#"))
        desk.put_program(Program.read("program more\nonly: #\nbegin #: +\nelse: *"))
        self.assert_raises_and_stays(desk, TooManySigns, lambda: desk.put_signs(("=", ">")), many=5)

    def test_broken(self):
        desk = Desk(BOOK)
        for claim in CLAIMS:
            desk.claim(claim)
        book = BOOK.with_program(TWO)
        self.assert_raises_and_stays(desk, Broken, lambda: desk.put_program(TWO), index=0, shown=confusion(book))
        self.assertEqual((">>", "ann", "ann", "bob"), confusion(book))
        same = BOOK.with_signs((">", ">"))
        self.assertIs(True, clear(same))
        desk.put_signs((">", ">"))
        self.assert_state(desk, same, CLAIMS, 8)
        book = same.with_program(GONE)
        self.assert_raises_and_stays(
            desk, Broken, lambda: desk.put_program(GONE), index=1, shown=(("bob", "own"), ("ann", "own")))
        self.assertEqual(gone(book, "ann"), (("bob", "own"), ("ann", "own")))
        answers = (("bob", "more", "ann"), ("ann", "own", "bob"), ("bob", "more", "bob"))
        book = same.with_answers(answers)
        error = self.assert_raises_and_stays(desk, Broken, lambda: desk.put_answers(answers))
        first = [index for index, claim in enumerate(CLAIMS) if not holds(book, claim)][0]
        self.assertEqual((first, shown_against(book, CLAIMS[first])), (error.index, error.shown))

    def test_the_first_claim_that_does_not_hold(self):
        claims = (("tells", "ann", "", "ann"), ("within", "ann", 20), ("kept", "bob"), ("clear",), ("kept", "ann"))
        desk = Desk(BOOK.with_program(KEEPS))
        for claim in claims:
            desk.claim(claim)
        for index, program in ((1, BOOK.program("own")), (2, GONE), (1, PLAIN),
                               (3, Program.read("program own\nonly: >\nelse: none")),
                               (0, Program.read("program own\nelse: none"))):
            book = desk.book.with_program(program)
            self.assert_raises_and_stays(
                desk, Broken, lambda: desk.put_program(program), index=index, shown=shown_against(book, claims[index]))
            self.assertEqual([index], [at for at, claim in enumerate(claims) if not holds(book, claim)][:1])
        self.assert_state(desk, BOOK.with_program(KEEPS), claims, 5)
        for index in (0, 0, 0):
            desk.lift(index)
        desk.put_answers(())
        self.assert_state(desk, BOOK.with_program(KEEPS).with_answers(()), claims[3:], 9)


class Claims(DeskTests):
    def test_each_kind(self):
        desk = Desk(BOOK)
        for index, claim in enumerate(CLAIMS):
            self.assertIsNone(desk.claim(claim))
            self.assert_state(desk, BOOK, CLAIMS[:index + 1], index + 1)
        desk = Desk(BOOK.with_program(KEEPS))
        for claim in (("within", "ann", 1), ("within", "bob", 20)):
            self.assertIsNone(desk.claim(claim=claim))
        self.assertEqual((("within", "ann", 1), ("within", "bob", 20)), desk.claims)

    def test_those_that_do_not_hold(self):
        desk = Desk(BOOK.with_program(TWO))
        for many in range(4):
            for claim, shown in (
                (("clear",), (">>", "ann", "ann", "bob")),
                (("within", "ann", 0), (("bob", "own"),)),
                (("within", "ann", 1), (("bob", "own"), ("ann", "own"))),
                (("tells", "ann", ">", "ann"), ("bob",)),
                (("tells", "ann", ">>", "ann"), ("ann", "bob")),
                (("tells", "ann", ">>", "bob"), ("ann", "bob")),
            ):
                self.assert_raises_and_stays(desk, Broken, lambda: desk.claim(claim), index=many, shown=shown)
            desk.claim(("within", "ann", 2))
        left = Desk(BOOK.with_program(GONE))
        self.assert_raises_and_stays(
            left, Broken, lambda: left.claim(("kept", "bob")), index=0, shown=(("ann", "own"), ("bob", "own")))

    def test_one_that_stands_there_already(self):
        desk = Desk(BOOK)
        for many in range(3):
            desk.claim(("clear",))
        self.assert_state(desk, BOOK, (("clear",),) * 3, 3)
        desk.lift(1)
        self.assert_state(desk, BOOK, (("clear",),) * 2, 4)

    def test_nobody_at_all_can_be_the_writer(self):
        desk = Desk(BOOK.with_answers(()))
        for claim in (("tells", "ann", ">", "ann"), ("tells", "bob", "#*+:=>|", "ann"), ("tells", "ann", "", "ann")):
            desk.claim(claim)
        self.assertEqual(3, desk.changes)
        self.assert_raises_and_stays(
            desk, Broken, lambda: desk.claim(("tells", "ann", "", "bob")), index=3, shown=("ann",))

    def test_claims_that_are_none(self):
        wrong = [(), ("clear", "ann"), ("clear", ()), ("clear", None), ("kept",), ("kept", "ann", 1), ("within", "ann"),
                 ("within", "ann", 1, 2), ("tells", "ann", ""), ("tells", "ann", "", "bob", ""), ("never", "ann"),
                 ("Clear",), ("clear ",), ("",), ("keptt", "ann"), ["clear"], "clear", ("can", "ann", "ann", ""),
                 (("clear",),), ("kept", "a", "b"), {"clear": 1}, ("gone", "ann")]
        for value in STRANGE:
            wrong += [(value,), (value, "ann"), (value, "ann", 1), (value, "ann", "", "bob")]
            if value.__class__ is not int or not 0 <= value <= 20:
                wrong += [("within", "ann", value), ("within", value, value)]
            wrong += [("tells", "ann", value, "bob"), ("tells", value, value, value)]
        for value in (True, False, -1, 21, 10 ** 39, "1", (1,), None):
            wrong += [("within", "ann", value), ("within", "eve", value), ("within", None, value)]
        for value in ("@", "a", " ", "> >", "none", "\n"):
            wrong += [("tells", "ann", value, "bob"), ("tells", "eve", value, "eve")]
        for book in (BOOK, BOOK.with_program(TWO)):
            desk = Desk(book)
            for value in [*wrong, *STRANGE]:
                error = self.assert_raises_and_stays(desk, InvalidClaim, lambda: desk.claim(value))
                self.assertIs(value, error.given)

    def test_names_in_their_order(self):
        # None of them holds for a person of the book, but this is told later.
        desk = Desk(BOOK.with_program(TWO).with_answers((*BOOK.answers, ("ann", "own", "ann"))))
        for value in [*STRANGE, *NO_NAMES, "eve", "own", ("ann",), BOOK]:
            for claim in (("kept", value), ("within", value, 0), ("tells", value, ">>", "ann"),
                          ("tells", "ann", ">>", value), ("tells", value, ">>", "eva")):
                error = self.assert_raises_and_stays(desk, UnknownPerson, lambda: desk.claim(claim))
                self.assertIs(value, error.given)

    def test_lift(self):
        desk = Desk(BOOK)
        for claim in CLAIMS[:4]:
            desk.claim(claim)
        self.assertIsNone(desk.lift(1))
        self.assert_state(desk, BOOK, (CLAIMS[0], CLAIMS[2], CLAIMS[3]), 5)
        self.assertIsNone(desk.lift(index=2))
        self.assert_state(desk, BOOK, (CLAIMS[0], CLAIMS[2]), 6)
        desk.lift(0)
        # What is lifted need not hold any more.
        desk.put_program(TWO)
        self.assert_state(desk, BOOK.with_program(TWO), (CLAIMS[2],), 8)
        desk.lift(0)
        self.assert_state(desk, BOOK.with_program(TWO), (), 9)

    def test_what_is_no_index_of_a_claim(self):
        desk = Desk(BOOK)
        for many in range(3):
            for value in [*[value for value in STRANGE if value.__class__ is not int], -1, -2, many, many + 1, 10 ** 39,
                          "0", True, False, (0,), [0]]:
                error = self.assert_raises_and_stays(desk, InvalidPlace, lambda: desk.lift(value))
                self.assertIs(value, error.given)
            desk.claim(("clear",))


class Undo(DeskTests):
    def test_each_kind_of_change_in_order(self):
        desk = Desk(BOOK)
        states = [state_of(desk)]
        for change in (
            lambda: desk.claim(("kept", "ann")), lambda: desk.put_program(TWO),
            lambda: desk.claim(("within", "ann", 2)),
            lambda: desk.put_signs(("=", "=")), lambda: desk.lift(0), lambda: desk.put_answers(BOOK.answers[:1]),
            lambda: desk.put_answers(BOOK.answers[:1]), lambda: desk.lift(0), lambda: desk.put_program(PLAIN),
        ):
            change()
            states.append(state_of(desk))
        self.assertEqual(list(range(10)), [changes for _, _, changes in states])
        for state in states[-2::-1]:
            self.assertIsNone(desk.undo())
            self.assertEqual(state, state_of(desk))
        self.assertIs(BOOK, desk.book)

    def test_nothing_to_undo(self):
        desk = Desk(BOOK)
        self.assert_raises_and_stays(desk, NothingToUndo, desk.undo)
        desk.put_program(TWO)
        desk.undo()
        self.assert_raises_and_stays(desk, NothingToUndo, desk.undo)
        # What was refused is no change.
        self.assertRaises(InvalidClaim, desk.claim, ())
        self.assertRaises(InvalidPlace, desk.lift, 0)
        self.assertRaises(Broken, desk.claim, ("within", "ann", 0))
        self.assert_raises_and_stays(desk, NothingToUndo, desk.undo)

    def test_changes_by_which_nothing_became_other_than_it_was(self):
        desk = Desk(BOOK)
        desk.put_program(TWO)
        for _ in range(3):
            desk.put_program(TWO)
            desk.put_signs((">", "|"))
        self.assertEqual(7, desk.changes)
        for changes in (6, 5, 4, 3, 2, 1):
            desk.undo()
            self.assert_state(desk, BOOK.with_program(TWO), (), changes)
        desk.undo()
        self.assert_state(desk, BOOK, (), 0)

    def test_changes_behind_an_undo(self):
        desk = Desk(BOOK)
        desk.put_program(TWO)
        desk.put_signs(("#", "*"))
        desk.undo()
        desk.claim(("within", "ann", 2))
        desk.put_answers(())
        self.assert_state(desk, BOOK.with_program(TWO).with_answers(()), (("within", "ann", 2),), 3)
        desk.undo()
        desk.undo()
        self.assert_state(desk, BOOK.with_program(TWO), (), 1)
        desk.undo()
        self.assert_state(desk, BOOK, (), 0)

    def test_many_changes(self):
        desk = Desk(BOOK)
        for _ in range(500):
            desk.put_program(TWO)
            desk.put_program(BOOK.program("own"))
        self.assertEqual(1000, desk.changes)
        for _ in range(999):
            desk.undo()
        self.assert_state(desk, BOOK.with_program(TWO), (), 1)


class Drawn(DeskTests):
    """Desks against a plain model: a list of the states that can be gone back to."""

    def change(self, draw, desk, states):
        book, claims = states[-1]
        names = (*book.names, "eve")
        kind = draw.randint(0, 5)
        if kind == 0:
            program = drawn_program(draw, draw.choice("pq"), book.signs, 0.2, (0, 1, 2))
            return lambda: desk.put_program(program), lambda: (book.with_program(program), claims)
        if kind == 1:
            signs = tuple([draw.choice(book.signs) for _ in book.names])
            return lambda: desk.put_signs(signs), lambda: (book.with_signs(signs), claims)
        if kind == 2:
            answers = tuple(draw.sample(book.answers, draw.randint(0, len(book.answers))))
            return lambda: desk.put_answers(answers), lambda: (book.with_answers(answers), claims)
        if kind == 3:
            claim = draw.choice((
                ("clear",), ("kept", draw.choice(names)), ("within", draw.choice(names), draw.randint(0, 21)),
                ("tells", draw.choice(names), draw.choice(("", *book.signs)), draw.choice(names)),
            ))
            return lambda: desk.claim(claim), lambda: (book, (*claims, claim))
        if kind == 4 and draw.random() < 0.3:
            place = draw.randint(0, 3)
            return lambda: desk.lift(place), lambda: (book, claims[:place] + claims[place + 1:])
        return desk.undo, None

    def test_all_claims_hold_after_each_change(self):
        draw = random.Random(1)
        done = refused = broken = 0
        for _ in range(50):
            book = drawn_book(draw, draw.choice((1, 2, 3)), 2, lengths=(0, 1, 1, 2))
            desk = Desk(book)
            states = [(book, ())]
            for _ in range(25):
                change, model = self.change(draw, desk, states)
                before = state_of(desk)
                try:
                    change()
                except Broken as error:
                    broken += 1
                    self.assertEqual(before, state_of(desk))
                    changed, claims = model()
                    first = [index for index, claim in enumerate(claims) if not holds(changed, claim)][0]
                    self.assertEqual((first, shown_against(changed, claims[first])), (error.index, error.shown))
                    continue
                except (NotRight, NotThere, CannotBe):
                    refused += 1
                    self.assertEqual(before, state_of(desk))
                    continue
                done += 1
                if model is None:
                    states.pop()
                else:
                    states.append(model())
                self.assert_state(desk, *states[-1], len(states) - 1)
                self.assertEqual([], [claim for claim in desk.claims if not holds(desk.book, claim)])
        self.assertGreater(min(done, refused, broken), 50)


class Failed(Exception):
    pass


class Trials(DeskTests):
    def test_rows_that_end_well(self):
        desk = Desk(BOOK)
        with desk.trial() as held:
            self.assertIs(desk, held)
            held.put_program(TWO)
            desk.claim(("within", "ann", 2))
        self.assert_state(desk, BOOK.with_program(TWO), (("within", "ann", 2),), 2)
        desk.undo()
        self.assert_state(desk, BOOK.with_program(TWO), (), 1)
        with desk.trial():
            pass
        self.assert_state(desk, BOOK.with_program(TWO), (), 1)

    def test_rows_that_end_with_an_exception(self):
        for error in (Failed("x"), KeyError(1), Broken(1, None), KeyboardInterrupt(), StopIteration(), ValueError()):
            desk = Desk(BOOK)
            desk.claim(("kept", "ann"))
            with self.assertRaises(error.__class__) as caught:
                with desk.trial() as held:
                    held.put_program(TWO)
                    held.lift(0)
                    held.put_answers(())
                    raise error
            self.assertIs(error, caught.exception)
            self.assert_state(desk, BOOK, (("kept", "ann"),), 1)
            desk.undo()
            self.assert_state(desk, BOOK, (), 0)

    def test_an_error_of_the_desk(self):
        desk = Desk(BOOK)
        with self.assertRaises(InvalidPlace):
            with desk.trial():
                desk.put_program(TWO)
                desk.lift(0)
        self.assert_state(desk, BOOK, (), 0)
        # One that is caught within does not end the rows.
        with desk.trial():
            desk.put_program(TWO)
            self.assertRaises(InvalidPlace, desk.lift, 0)
        self.assert_state(desk, BOOK.with_program(TWO), (), 1)

    def test_undo_within(self):
        desk = Desk(BOOK)
        desk.put_program(TWO)
        desk.put_signs(("#", "*"))
        with self.assertRaises(Failed):
            with desk.trial():
                desk.undo()
                desk.undo()
                self.assert_state(desk, BOOK, (), 0)
                self.assertRaises(NothingToUndo, desk.undo)
                desk.claim(("clear",))
                raise Failed
        self.assert_state(desk, BOOK.with_program(TWO).with_signs(("#", "*")), (), 2)
        with desk.trial():
            desk.undo()
            desk.claim(("within", "ann", 2))
            desk.claim(("kept", "bob"))
        self.assert_state(desk, BOOK.with_program(TWO), (("within", "ann", 2), ("kept", "bob")), 3)
        for _ in range(3):
            desk.undo()
        self.assert_state(desk, BOOK, (), 0)

    def test_trials_within_trials(self):
        desk = Desk(BOOK)
        with desk.trial():
            desk.put_program(TWO)
            with self.assertRaises(Failed):
                with desk.trial():
                    desk.put_signs(("#", "*"))
                    with desk.trial():
                        desk.put_answers(())
                    self.assertEqual(3, desk.changes)
                    raise Failed
            self.assert_state(desk, BOOK.with_program(TWO), (), 1)
            desk.put_answers(())
        self.assert_state(desk, BOOK.with_program(TWO).with_answers(()), (), 2)
        with self.assertRaises(Failed):
            with desk.trial():
                desk.undo()
                with desk.trial():
                    desk.claim(("kept", "ann"))
                raise Failed
        self.assert_state(desk, BOOK.with_program(TWO).with_answers(()), (), 2)

    def test_the_rows_begin_where_the_statement_does(self):
        desk = Desk(BOOK)
        trial = desk.trial()
        desk.put_program(TWO)
        with self.assertRaises(Failed):
            with trial:
                desk.put_answers(())
                raise Failed
        self.assert_state(desk, BOOK.with_program(TWO), (), 1)
        # The same one may stand in several statements, one within the other as well.
        with self.assertRaises(Failed):
            with trial:
                desk.put_answers(())
                with trial:
                    desk.put_signs(("#", "*"))
                raise Failed
        self.assert_state(desk, BOOK.with_program(TWO), (), 1)
        with trial:
            desk.put_answers(())
            with self.assertRaises(Failed):
                with trial:
                    desk.put_signs(("#", "*"))
                    raise Failed
        self.assert_state(desk, BOOK.with_program(TWO).with_answers(()), (), 2)

    def test_return_break_and_continue_end_the_rows_well(self):
        desk = Desk(BOOK)

        def put():
            with desk.trial():
                desk.put_program(TWO)
                return "put"

        self.assertEqual("put", put())
        for _ in range(2):
            with desk.trial():
                desk.put_answers(())
                continue
        while True:
            with desk.trial():
                desk.put_signs(("#", "*"))
                break
        self.assert_state(desk, BOOK.with_program(TWO).with_answers(()).with_signs(("#", "*")), (), 4)

    def test_trials_of_two_desks(self):
        one, other = Desk(BOOK), Desk(BOOK)
        with self.assertRaises(Failed):
            with one.trial(), other.trial():
                one.put_program(TWO)
                other.put_answers(())
                raise Failed
        self.assert_state(one, BOOK, (), 0)
        self.assert_state(other, BOOK, (), 0)
        with one.trial():
            with self.assertRaises(Failed):
                with other.trial():
                    one.put_program(TWO)
                    other.put_answers(())
                    raise Failed
        self.assert_state(one, BOOK.with_program(TWO), (), 1)
        self.assert_state(other, BOOK, (), 0)

    def test_tried(self):
        desk = Desk(BOOK)

        def put(held):
            self.assertIs(desk, held)
            held.put_program(TWO)
            return [held.changes]

        self.assertEqual([1], desk.tried(put))
        self.assertEqual([2], desk.tried(action=put))
        self.assertIsNone(desk.tried(lambda held: held.undo()))
        self.assertIs(desk, desk.tried(lambda held: held))
        self.assert_state(desk, BOOK.with_program(TWO), (), 1)

    def test_tried_with_what_the_action_raises(self):
        desk = Desk(BOOK)
        desk.claim(("kept", "ann"))
        error = Failed("x")

        def fail(held):
            held.undo()
            held.put_program(TWO)
            raise error

        with self.assertRaises(Failed) as caught:
            desk.tried(fail)
        self.assertIs(error, caught.exception)
        self.assert_state(desk, BOOK, (("kept", "ann"),), 1)
        with self.assertRaises(Broken):
            desk.tried(lambda held: [held.put_program(KEEPS), held.put_answers(()), held.put_program(GONE),
                                     held.put_answers(BOOK.answers)])
        self.assert_state(desk, BOOK, (("kept", "ann"),), 1)
        self.assertEqual("y", desk.tried(lambda held: held.tried(lambda again: "y")))

    def test_claims_stay_as_they_were_passed(self):
        claim = ("tells", "ann", "|", "bob")
        desk = Desk(BOOK)
        desk.claim(claim)
        self.assertIs(claim, desk.claims[0])
        self.assertRaises(InvalidClaim, desk.claim, EqualToAll())
