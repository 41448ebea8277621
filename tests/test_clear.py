import random
import unittest

from quotedthreads.books import Book
from quotedthreads.numbers import shortest
from quotedthreads.telling import can_be, clear, confused, confusion
from quotedthreads.threads import led
from tests.values import SIGNS, marks_up_to
from tests.walks import OWN, TWO, by_marks, drawn_book, drawn_books, walks, whole_walks



def confusions(book, found):
    """The confusions that are found in walks, each as what they are compared by."""
    standings = {}
    for name, walk in found.items():
        for standing in walk.standings():
            standings.setdefault(standing, []).append(book.names.index(name))
    return sorted([
        (by_marks(marks), book.names.index(sender), one, other)
        for (sender, marks), places in standings.items() for one in places for other in places if one < other
    ])


class Compared(unittest.TestCase):
    def assert_threads_lead_there(self, book, told):
        marks, sender, one, other = told
        for name in (one, other):
            self.assertEqual((sender, marks), led(book, name, shortest(book, name, sender, marks))[-1])

    def assert_as_walked(self, book, longest):
        """Nothing that a walk finds comes before what is told, and for this there are threads."""
        found = confusions(book, walks(book, longest))
        told = confusion(book)
        pairs = confused(book)
        self.assertIs(told is None, clear(book))
        self.assertEqual(told is None, pairs == ())
        self.assertEqual([], [pair for pair in {(one, other) for _, _, one, other in found}
                              if (book.names[pair[0]], book.names[pair[1]]) not in pairs], str(book))
        if told is None:
            self.assertEqual([], found, str(book))
            return "clear"
        self.assert_threads_lead_there(book, told)
        marks, sender, one, other = told
        key = (by_marks(marks), *[book.names.index(name) for name in (sender, one, other)])
        self.assertLess(key[2], key[3])
        self.assertLessEqual(key, min([key, *found]), str(book))
        self.assertIn((one, other), pairs)
        return "near" if found[:1] == [key] else "far"

    def test_books_of_all_sizes(self):
        draw = random.Random(1)
        kinds = []
        for people in range(1, 5):
            for programs in range(1, 5):
                for answers in (0, 1, 2, 3, 4, 5, 6, 7, 8):
                    kinds.append(self.assert_as_walked(drawn_book(draw, people, programs, answers), 14))
        self.assertGreater(kinds.count("clear"), 30)
        self.assertGreater(kinds.count("near"), 30)

    def test_programs_that_take_away_or_put_much(self):
        kinds = []
        for lengths in ((0, 0, 1, 2), (1, 1, 2), (1, 2, 3), (2, 3), (3,)):
            for book in drawn_books(2, 40, gone=0.03, lengths=lengths):
                kinds.append(self.assert_as_walked(book, 14))
        self.assertGreater(kinds.count("clear"), 30)
        self.assertGreater(kinds.count("near"), 30)

    def test_few_answers(self):
        kinds = []
        for book in drawn_books(3, 150, people=2, answers=3, lengths=(0, 1, 2, 2, 3)):
            kinds.append(self.assert_as_walked(book, 30))
        self.assertGreater(kinds.count("clear"), 20)
        self.assertGreater(kinds.count("near"), 20)

    def test_all_standings(self):
        """Books of which all standings can be looked at: nothing more and nothing less is told."""
        kinds = []
        for lengths in ((0, 0, 1), (0, 1, 1, 2), (0, 1, 2, 3)):
            for book in drawn_books(5, 150, lengths=lengths):
                found = whole_walks(book)
                if found is not None:
                    wanted = confusions(book, found)
                    pairs = sorted({(one, other) for _, _, one, other in wanted})
                    self.assertEqual(tuple([(book.names[one], book.names[other]) for one, other in pairs]),
                                     confused(book))
                    told = confusion(book)
                    if told is None:
                        self.assertEqual([], wanted)
                    else:
                        marks, *names = told
                        self.assertEqual(wanted[0], (by_marks(marks), *[book.names.index(name) for name in names]))
                    kinds.append(len(pairs))
        for many in (0, 1, 2, 3, 6):
            self.assertGreater(kinds.count(many), 5)

    def test_no_marks_ahead_of_those_of_a_confusion(self):
        looked = 0
        for book in drawn_books(4, 60, people=3, answers=6, lengths=(1, 2, 2, 3)):
            told = confusion(book)
            if told is not None and 1 <= len(told[0]) <= 4:
                looked += 1
                for marks in marks_up_to(len(told[0]), book.signs):
                    if by_marks(marks) < by_marks(told[0]):
                        for sender in book.names:
                            self.assertLess(len(can_be(book, sender, marks)), 2)
        self.assertGreater(looked, 5)


class Told(unittest.TestCase):
    def assert_confusion(self, book, told, *pairs):
        for found in (confusion(book), confusion(book=book)):
            self.assertEqual(told, found)
            if told is not None:
                self.assertIs(tuple, found.__class__)
        for found in (confused(book), confused(book=book)):
            self.assertEqual(pairs, found)
            self.assertEqual([tuple] * (len(pairs) + 1), [value.__class__ for value in (found, *found)])
        for found in (clear(book), clear(book=book)):
            self.assertIs(told is None, found)

    def test_clear_books(self):
        for book in (OWN, TWO.with_answers(()), TWO.with_answers(TWO.answers[:1]), OWN.with_answers(OWN.answers[1:])):
            self.assert_confusion(book, None)

    def test_one_person_is_never_confused(self):
        book = Book.read("person ann >\nprogram p\nelse: none\nprogram q\nelse: >\nanswer ann p ann\nanswer ann q ann")
        self.assert_confusion(book, None)

    def test_the_same_own_signs(self):
        # Each of them answers alone, whoever is answered has the same sign.
        book = Book((("ann", ">"), ("bob", ">")), OWN.programs, (("ann", "own", "bob"), ("ann", "own", "ann")))
        self.assert_confusion(book, (">", "ann", "ann", "bob"), ("ann", "bob"))
        self.assert_confusion(book.with_signs((">", "|")), None)

    def test_the_shortest_marks(self):
        self.assert_confusion(TWO, (">>", "ann", "ann", "bob"), ("ann", "bob"))
        # With no marks at all.
        book = Book.read("person ann >\nperson bob |\nprogram p\nelse: none\nanswer bob p ann")
        self.assert_confusion(book, ("", "bob", "ann", "bob"), ("ann", "bob"))

    def test_shorter_marks_come_before_lesser_ones(self):
        # Both get | and ## at once.
        book = Book.read("person ann >\nperson bob >\nprogram p\nelse: |\nprogram q\nelse: ##\n"
                         "answer ann q ann\nanswer ann q bob\nanswer ann p ann\nanswer ann p bob")
        self.assert_confusion(book, ("|", "ann", "ann", "bob"), ("ann", "bob"))
        self.assert_confusion(book.with_answers(book.answers[:3]), ("##", "ann", "ann", "bob"), ("ann", "bob"))

    def test_lesser_marks_of_the_same_length(self):
        # Both get || and >> at once: > comes before |.
        book = Book.read("person ann >\nperson bob >\nprogram p\nelse: ||\nprogram q\nelse: >>\n"
                         "answer ann p ann\nanswer ann p bob\nanswer ann q ann\nanswer ann q bob")
        self.assert_confusion(book, (">>", "ann", "ann", "bob"), ("ann", "bob"))
        for one, sign in enumerate(SIGNS):
            for other in SIGNS[one + 1:]:
                exchanged = Book.read(str(book).replace("||", "x").replace(">>", other).replace("x", sign)
                                      .replace(" >", " " + sign))
                self.assert_confusion(exchanged, (sign, "ann", "ann", "bob"), ("ann", "bob"))

    def test_the_sender_by_places_in_the_book(self):
        # Everybody can be answered by everybody, and each line gets the same signs.
        text = "person {} >\nperson {} |\nprogram p\nelse: >\nanswer ann p bob\nanswer bob p ann\n"
        text += "answer bob p bob\nanswer ann p ann"
        self.assert_confusion(Book.read(text.format("ann", "bob")), (">", "ann", "ann", "bob"), ("ann", "bob"))
        self.assert_confusion(Book.read(text.format("bob", "ann")), (">", "bob", "bob", "ann"), ("bob", "ann"))
        # Only in mails from the person who comes later.
        book = Book.read("person ann >\nperson bob |\nprogram p\nelse: >\nanswer bob p ann\nanswer bob p bob")
        self.assert_confusion(book, (">", "bob", "ann", "bob"), ("ann", "bob"))

    def test_two_people_by_places_in_the_book(self):
        text = "person dora >\nperson cid |\nperson bob #\nperson ann >\nprogram p\nelse: @\n"
        # dora and ann have the same sign; whoever is answered by cid.
        rows = ["answer cid p dora", "answer cid p bob", "answer cid p ann"]
        self.assert_confusion(Book.read(text + "\n".join(rows)), (">", "cid", "dora", "ann"), ("dora", "ann"))
        book = Book.read((text + "\n".join(rows)).replace("@", "|"))
        self.assert_confusion(book, ("|", "cid", "dora", "bob"), ("dora", "bob"), ("dora", "ann"), ("bob", "ann"))
        book = book.with_answers((*book.answers, ("cid", "p", "cid")))
        self.assert_confusion(book, ("|", "cid", "dora", "cid"), ("dora", "cid"), ("dora", "bob"), ("dora", "ann"),
                              ("cid", "bob"), ("cid", "ann"), ("bob", "ann"))

    def test_growing_marks(self):
        # Each line grows by a sign with an answer, the first time by one or by three.
        book = Book.read("person ann >\nperson bob >\nprogram p\nelse: #\nprogram q\nonly: ###\nelse: #\n"
                         "answer ann p ann\nanswer ann q bob")
        self.assert_confusion(book, ("###", "ann", "ann", "bob"), ("ann", "bob"))
        # What the first answer puts stays behind all that comes ahead of it.
        book = Book.read("person ann >\nperson bob |\nprogram p\nonly: @\nelse: ##\n"
                         "answer ann p ann\nanswer ann p bob")
        self.assert_confusion(book, None)

    def test_long_marks_and_pairs_that_are_confused_at_longer_ones(self):
        # In mails from d are lines of a with 3, 6, 9 .. signs, of b with 5, 10, 15 .., of c with 2, 7, 12 ..
        book = Book.read("person a >\nperson b |\nperson c :\nperson d :\nprogram three\nelse: ###\n"
                         "program two\nelse: ##\nprogram pass\nonly: @\nelse: none\nanswer a three a\n"
                         "answer c three b\nanswer b two c\nanswer d pass a\nanswer d pass b")
        self.assert_confusion(book, ("#" * 12, "d", "a", "c"), ("a", "b"), ("a", "c"))
        for marks, names in (("#" * 12, ("a", "c")), ("#" * 15, ("a", "b")), ("#" * 9, ("a",)), ("#" * 5, ("b",))):
            self.assertEqual(names, can_be(book, "d", marks))
        self.assertEqual(confusions(book, walks(book, 12))[0], (by_marks("#" * 12), 3, 0, 2))

    def test_marks_that_are_read_from_the_back(self):
        # The signs that differ stand behind all others: a and b are confused in no thread.
        text = "person a >\nperson b |\nperson c :\nprogram p\nonly: @\nelse: :\n"
        text += "answer c p a\nanswer c p b\nanswer c p c"
        self.assert_confusion(Book.read(text), None)
        # They are, if the ones ahead of them are taken away, and they, too.
        book = Book.read(text.replace("else: :", "only >: none\nonly |: none\nelse: :"))
        self.assert_confusion(book, ("", "c", "a", "b"), ("a", "b"), ("a", "c"), ("b", "c"))
