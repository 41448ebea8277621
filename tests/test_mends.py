import random
import unittest
from itertools import combinations, product

from quotedthreads import mends
from quotedthreads.books import Book
from quotedthreads.errors import InvalidExchanges, InvalidSigns, NotABook, TooManySigns
from quotedthreads.mends import clearing, own_signs
from quotedthreads.programs import Program
from quotedthreads.telling import clear
from tests.values import NO_NAMES, NO_SIGNS, SIGNS, STRANGE, EqualToAll
from tests.walks import TWO, drawn_book, drawn_program

PLAIN = Book.read("""person ann >
person bob |
program p
else: >
program q
else: >
answer ann p ann
answer bob p ann
answer ann q bob
answer bob q bob""")
OWN = Program.read("program two\nelse: @")


def exchange(text):
    program = Program.read(text)
    return (program.name, program)


def with_exchanges(book, exchanges):
    """The book with these exchanges, None if there is none."""
    if len({name for name, _ in exchanges}) < len(exchanges):
        return None
    programs = [dict(exchanges).get(program.name, program) for program in book.programs]
    try:
        return Book(book.people, tuple(programs), book.answers)
    except TooManySigns:
        return None


def all_clearing(book, exchanges):
    """The indexes of all lots that clear the book, least or not."""
    lots = []
    for size in range(len(exchanges) + 1):
        for lot in combinations(range(len(exchanges)), size):
            changed = with_exchanges(book, [exchanges[index] for index in lot])
            if changed is not None and clear(changed):
                lots.append(lot)
    return lots


def least_of(lots):
    return tuple([lot for lot in lots if not any([set(other) < set(lot) for other in lots])])


def all_own_signs(book, signs):
    """All own signs with which the book is clear, in the order in which they are told."""
    found = []
    for row in product(range(len(signs)), repeat=len(book.people)):
        try:
            changed = book.with_signs(tuple([signs[index] for index in row]))
        except TooManySigns:
            continue
        if clear(changed):
            found.append((len(set(row)), row))
    return [tuple([signs[index] for index in row]) for _, row in sorted(found)]


class Clearing(unittest.TestCase):
    def assert_clearing(self, book, exchanges, *lots):
        for found in (clearing(book, exchanges), clearing(exchanges=exchanges, book=book)):
            self.assertEqual(lots, found)
            self.assertEqual([tuple] * (len(lots) + 1), [value.__class__ for value in (found, *found)])

    def test_all_lots_are_tried(self):
        draw = random.Random(1)
        kinds = []
        for _ in range(900):
            book = drawn_book(draw, draw.choice((2, 2, 3)), draw.randint(2, 4), draw.randint(2, 5),
                              lengths=(1, 2, 2, 3))
            if clear(book) and draw.random() < 0.9:
                continue
            exchanges = []
            for _ in range(draw.randint(0, 6)):
                name = draw.choice(book.programs).name
                signs = draw.choice((book.signs, book.signs, book.signs + draw.choice(SIGNS)))
                pair = (name, drawn_program(draw, name, signs, 0.1, (0, 1, 2, 3)))
                if draw.random() < 0.5:
                    pair = exchange(f"program {name}\nonly: @{draw.choice(signs)}\nelse: {draw.choice(signs)}")
                if pair not in exchanges:
                    exchanges.append(pair)
            lots = least_of(all_clearing(book, exchanges))
            self.assertEqual(lots, clearing(book, tuple(exchanges)), str(book))
            kinds.append((len(lots), max([len(lot) for lot in lots], default=None)))
        for many in (0, 1, 2):
            self.assertGreater([lots for lots, _ in kinds].count(many), 5)
        for most in (None, 0, 1, 2):
            self.assertGreater([size for _, size in kinds].count(most), 3)

    def test_clear_books(self):
        for book in (TWO.with_answers(()), TWO.with_program(OWN)):
            for exchanges in ((), (("two", OWN),), (("two", TWO.program("two")), ("two", OWN))):
                self.assert_clearing(book, exchanges, ())

    def test_no_exchanges(self):
        self.assert_clearing(TWO, ())
        self.assert_clearing(PLAIN, ())

    def test_one_exchange(self):
        self.assert_clearing(TWO, (("two", OWN),), (0,))
        self.assert_clearing(TWO, (("two", TWO.program("two")),))
        self.assert_clearing(TWO, (("two", TWO.program("two")), ("two", OWN)), (1,))

    def test_exchanges_of_one_program_are_in_no_lot_together(self):
        other = exchange("program two\nbegin >: gone\nbegin |: |\nelse: @")
        self.assert_clearing(TWO, (("two", OWN), other), (0,), (1,))

    def test_lots_of_two(self):
        p, q = exchange("program p\nelse: @"), exchange("program q\nelse: @")
        self.assert_clearing(PLAIN, (p,))
        self.assert_clearing(PLAIN, (q,), (0,))
        self.assert_clearing(PLAIN, (q, p), (0,))
        book = PLAIN.with_signs(("|", ">"))
        self.assert_clearing(book, (q,))
        self.assert_clearing(book, (p,), (0,))
        # Each of them does by itself.
        book = Book(PLAIN.people, PLAIN.programs, PLAIN.answers[:1] + PLAIN.answers[2:3])
        r, s = exchange("program p\nonly: #\nelse: >"), exchange("program q\nonly: |\nelse: >")
        self.assert_clearing(book, (r, s), (0,), (1,))
        t = exchange("program q\nonly: #\nelse: >")
        self.assert_clearing(book, (r, t), (0,), (1,))

    def test_only_together(self):
        book = Book.read("person a >\nperson b |\nprogram p\nelse: #\nprogram q\nelse: #\n"
                         "answer a p a\nanswer a p b\nanswer b q a\nanswer b q b")
        same_p, same_q = ("p", book.program("p")), ("q", book.program("q"))
        own_p, own_q = exchange("program p\nelse: @"), exchange("program q\nelse: @")
        exchanges = (same_p, own_q, same_q, own_p)
        self.assertEqual([(1, 3)], [lot for lot in all_clearing(book, exchanges) if len(lot) < 3])
        self.assert_clearing(book, exchanges, (1, 3))
        self.assert_clearing(book, exchanges[::-1], (0, 2))
        self.assert_clearing(book, exchanges[:3])

    def test_what_is_not_least_is_not_told(self):
        # The other exchange does no harm, but it is not needed.
        book = Book(TWO.people, (*TWO.programs, Program.read("program p\nelse: >")), TWO.answers)
        exchanges = (exchange("program p\nelse: @"), ("two", OWN), exchange("program p\nelse: |"))
        self.assert_clearing(book, exchanges, (1,))
        self.assertEqual([(1,), (0, 1), (1, 2)], all_clearing(book, exchanges))

    def test_a_lot_that_does_is_not_least_where_less_does_not(self):
        # All of the exchanges are needed, though some lots with one more do not clear the book.
        draw = random.Random(4)
        found = []
        for _ in range(400):
            book = drawn_book(draw, 2, 3, 4, lengths=(1, 2))
            exchanges = tuple([(name, drawn_program(draw, name, book.signs, 0.1, (1, 2))) for name in "pqr"])
            lots = clearing(book, exchanges)
            found += [(size, len(lots)) for size in {len(lot) for lot in lots}]
            self.assertEqual(least_of(all_clearing(book, exchanges)), lots)
        self.assertGreater(len([size for size, _ in found if size > 1]), 5)

    def test_too_many_signs(self):
        book = Book.read("person ann >\nperson bob |\nprogram two\nelse: >\nprogram p\nelse: #\n"
                         "answer bob two ann\nanswer ann two bob\nanswer ann p ann")
        own = ("two", Program.read("program two\nelse: @"))
        signs = exchange("program p\nonly: #*\nelse: @+")
        self.assertRaises(TooManySigns, book.with_program, signs[1])
        self.assertIsNone(with_exchanges(book, [own, signs]))
        self.assert_clearing(book, (own, signs), *least_of(all_clearing(book, (own, signs))))
        # One has too many by itself, and not with the other one.
        book = Book.read("person ann >\nperson bob |\nprogram p\nelse: #*\nprogram q\nelse: #\nanswer ann p bob\n"
                         "answer ann q ann\nanswer bob q bob")
        more, less = exchange("program q\nonly: +\nelse: @@"), exchange("program p\nelse: @")
        self.assertRaises(TooManySigns, book.with_program, more[1])
        self.assertIsNotNone(with_exchanges(book, [more, less]))
        self.assert_clearing(book, (more, less), *least_of(all_clearing(book, (more, less))))

    def test_too_many_signs_on_the_way_only(self):
        book = Book.read("person a >\nperson b |\nprogram p\nelse: #*\nprogram q\nelse: #*\nanswer a p b\nanswer a q a")
        p, q = exchange("program p\nelse: +"), exchange("program q\nelse: =")
        self.assertRaises(TooManySigns, book.with_program, p[1])
        self.assertRaises(TooManySigns, book.with_program, q[1])
        self.assert_clearing(book, (p, q), (0, 1))

    def test_the_seventh(self):
        puts = (">", "|", ">>", "||", ">|", "|>", ">>>")
        exchanges = tuple([exchange(f"program two\nonly: {put}\nelse: none") for put in puts])
        self.assert_clearing(TWO, exchanges[:6])
        self.assert_clearing(TWO, (*exchanges[:5], ("two", OWN)), (5,))
        self.assert_refused(6, exchanges)
        self.assert_refused(6, (*exchanges[:6], None))
        self.assert_refused(6, (*exchanges[:6], exchanges[0]))
        self.assert_refused(5, (*exchanges[:5], exchanges[2], exchanges[6]))

    def assert_refused(self, index, exchanges):
        for call in (lambda: clearing(TWO, exchanges), lambda: clearing(exchanges=exchanges, book=TWO)):
            with self.assertRaises(InvalidExchanges) as caught:
                call()
            self.assertEqual((index, index.__class__), (caught.exception.index, caught.exception.index.__class__))

    def test_no_tuple(self):
        for value in [value for value in STRANGE if not isinstance(value, tuple)]:
            self.assert_refused(None, value)
        for value in ([], [("two", OWN)], {"two": OWN}, OWN, "two", {("two", 1): 2}):
            self.assert_refused(None, value)

    def test_no_exchanges_of_the_book(self):
        wrong = [["two", OWN], (), ("two",), ("two", OWN, OWN), (OWN, "two"), ("two", str(OWN)), "two", OWN, "tw"]
        wrong += [("p", Program.read("program p\nelse: >")), ("p", OWN), ("two", Program.read("program p\nelse: >"))]
        wrong += [("ann", Program.read("program ann\nelse: >")), (OWN, OWN), ("two", TWO)]
        for value in [*STRANGE, *NO_NAMES]:
            wrong += [("two", value), (value, OWN), (value, value)]
        for value in [*wrong, *STRANGE]:
            self.assert_refused(0, (value,))
            self.assert_refused(0, (value, ("two", OWN)))
            self.assert_refused(1, (("two", OWN), value))
            self.assert_refused(1, (("two", OWN), value, value, ("two", OWN)))

    def test_what_stands_there_before(self):
        self.assert_refused(1, (("two", OWN), ("two", OWN)))
        self.assert_refused(1, (("two", OWN), ("two", Program.read(str(OWN)))))
        self.assert_refused(2, (("two", OWN), ("two", TWO.program("two")), ("two", OWN)))
        # It is no exchange, whatever it says of itself.
        self.assert_refused(1, (("two", OWN), EqualToAll()))

    def test_the_book_first(self):
        for value in [*STRANGE, str(TWO), (TWO,), Book]:
            for call in (lambda: clearing(value, None), lambda: own_signs(value, None),
                         lambda: clearing(exchanges=(), book=value), lambda: own_signs(signs=(">",), book=value)):
                with self.assertRaises(NotABook) as caught:
                    call()
                self.assertIs(value, caught.exception.given)


class OwnSigns(unittest.TestCase):
    def assert_own_signs(self, book, signs, told):
        for found in (own_signs(book, signs), own_signs(signs=signs, book=book)):
            self.assertEqual(told, found)
            if told is not None:
                self.assertIs(tuple, found.__class__)
                self.assertTrue(clear(book.with_signs(found)))

    def test_all_tuples_are_tried(self):
        draw = random.Random(2)
        kinds = []
        for many in (1, 2, 2, 2, 3, 3, 4):
            for _ in range(25):
                book = drawn_book(draw, many, answers=draw.randint(1, 5), lengths=(1, 1, 2))
                signs = tuple(draw.sample(SIGNS, draw.randint(1, 4)))
                found = all_own_signs(book, signs)
                told = found[0] if found else None
                self.assertEqual(told, own_signs(book, signs), str(book))
                kinds.append(len(set(told or ())))
        for many in (0, 1, 2):
            self.assertGreater(kinds.count(many), 5)

    def test_the_fewest_unlike_signs(self):
        book = Book.read("person a >\nperson b >\nperson c >\nprogram own\nelse: @\n"
                         "answer c own a\nanswer c own b\nanswer c own c")
        self.assert_own_signs(book, (">", "|", "#"), (">", "|", "#"))
        self.assert_own_signs(book, ("|", ">", "#", "*"), ("|", ">", "#"))
        self.assert_own_signs(book, ("|", ">"), None)
        # Only a and b must have unlike ones, as c is answered by nobody.
        book = book.with_answers(book.answers[:2])
        self.assert_own_signs(book, ("|", ">", "#"), ("|", ">", "|"))
        self.assert_own_signs(book, ("#", "*", "|", ">"), ("#", "*", "#"))
        self.assert_own_signs(book, (">",), None)
        # All of them may have the same.
        self.assert_own_signs(book.with_answers(()), ("=", ">"), ("=", "=", "="))
        self.assert_own_signs(book.with_answers(()), (">",), (">", ">", ">"))

    def test_the_first_by_the_indexes(self):
        book = Book.read("person a >\nperson b >\nprogram p\nonly: @\nelse: |\nanswer a p a\nanswer a p b")
        self.assert_own_signs(book, ("#", "*"), ("#", "*"))
        self.assert_own_signs(book, ("*", "#"), ("*", "#"))
        self.assert_own_signs(book, ("|", "#"), ("|", "#"))
        self.assert_own_signs(TWO, (">", "|", "#"), None)
        # With # for b its lines come to have no marks in mails from a, as lines of a have there.
        book = Book.read("person a >\nperson b >\nprogram p\nonly: @\nonly #: none\nelse: none\n"
                         "answer a p a\nanswer a p b")
        self.assert_own_signs(book, ("#", "*"), ("#", "*"))
        self.assert_own_signs(book, ("*", "#"), ("#", "*"))
        self.assert_own_signs(book, ("*", "#", "|"), ("*", "|"))

    def test_the_own_signs_of_the_book_do_not_matter(self):
        book = Book.read("person a >\nperson b >\nprogram own\nelse: @\nanswer a own a\nanswer a own b")
        for owns in product("#*>", repeat=2):
            self.assert_own_signs(book.with_signs(owns), ("=", "+"), ("=", "+"))

    def test_none(self):
        for signs in ((">",), (">", "|"), ("#", "*", "+", ":")):
            self.assert_own_signs(TWO, signs, None)

    def test_too_many_signs(self):
        book = Book.read("person a #\nperson b #\nprogram p\nonly: @\nonly #: *\nelse: +\nanswer a p a\nanswer a p b")
        self.assertEqual("#*+", book.signs)
        # Two more signs than these three are one too many.
        self.assertRaises(TooManySigns, book.with_signs, ("|", ">"))
        self.assert_own_signs(book, ("|", ">"), None)
        self.assert_own_signs(book, ("|", ">", "+"), all_own_signs(book, ("|", ">", "+"))[0])
        self.assertEqual({"|", "+"}, set(own_signs(book, ("|", ">", "+"))))
        book = Book.read("person a #\nperson b #\nprogram p\nonly: #*\nelse: +:\nanswer a p b")
        self.assert_own_signs(book, ("|", ">", "="), None)
        self.assert_own_signs(book, ("|", ">", ":"), (":", ":"))

    def assert_refused(self, index, signs):
        for call in (lambda: own_signs(TWO, signs), lambda: own_signs(signs=signs, book=TWO)):
            with self.assertRaises(InvalidSigns) as caught:
                call()
            self.assertEqual((index, index.__class__), (caught.exception.index, caught.exception.index.__class__))

    def test_no_tuple_and_no_signs(self):
        for value in [value for value in STRANGE if not isinstance(value, tuple)]:
            self.assert_refused(None, value)
        for value in ((), [], "", ">", ">|", [">"], {">": 1}):
            self.assert_refused(None, value)

    def test_what_is_no_sign(self):
        for value in [*STRANGE, *NO_SIGNS]:
            self.assert_refused(0, (value,))
            self.assert_refused(0, (value, ">"))
            self.assert_refused(1, (">", value))
            self.assert_refused(3, (">", "|", "#", value, ">"))

    def test_what_stands_there_before_and_the_fifth(self):
        self.assert_refused(1, (">", ">"))
        self.assert_refused(2, (">", "|", ">"))
        self.assert_refused(3, (">", "|", "#", "|", ">"))
        self.assert_refused(4, tuple("#*+:="))
        self.assert_refused(4, tuple(SIGNS))
        self.assert_refused(4, (*"#*+:", None))
        self.assert_refused(4, (*"#*+:", "#"))

    def test_nothing_is_changed_and_equal_calls_return_equal_results(self):
        exchanges = (("two", OWN), ("two", TWO.program("two")))
        text = str(TWO)
        for call in (lambda: clearing(TWO, exchanges), lambda: own_signs(TWO, (">", "|"))):
            self.assertEqual([call()] * 3, [call() for _ in range(3)])
        self.assertEqual((text, (("two", OWN), ("two", TWO.program("two")))), (str(TWO), exchanges))

    def test_the_interface_is_defined_in_its_file(self):
        for function in (clearing, own_signs):
            self.assertEqual("quotedthreads.mends", function.__module__)
            self.assertIs(function, getattr(mends, function.__name__))
