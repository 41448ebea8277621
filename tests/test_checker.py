import random
import unittest

from quotedthreads import checker
from quotedthreads.books import Book
from quotedthreads.certificates import certify_kept, certify_never, certify_within
from quotedthreads.checker import accepts
from tests.machines import is_closed, is_true, plainly_accepts
from tests.values import NO_NAMES, SIGNS, STRANGE, EqualToAll
from tests.walks import TWO, drawn_book

TEXT = str(TWO)
# A machine for ann: lines with no marks, >, >> are read as they come.
MACHINE = (("ann", "_", 0), ("bob", ">", 1), ("ann", ">", 2), ("bob", ">", 2), ("bob", ">", 3), ("ann", ">", 3),
           (1, "_", 0), (2, ">", 1), (3, ">", 1))
LEAVES = "person a >\nperson b |\nprogram p\nbegin >>: gone\nelse: >\nanswer b p a\nanswer a p b"
NO_TEXTS = [TEXT + "\n", TEXT + " ", " " + TEXT, TEXT[1:], TEXT[:-1], "", "ann", TEXT.replace("two", "three", 1),
            TEXT.replace("begin >>", "begin #*+"), TEXT.replace("\n", "; "), "\n".join(TEXT.split("\n")[::-1])]


class CheckerTests(unittest.TestCase):
    def assert_accepts(self, wanted, claim, certificate):
        for found in (accepts(claim, certificate), accepts(certificate=certificate, claim=claim)):
            self.assertIs(wanted, found, (claim, certificate))

    def assert_accepts_none(self, claims, certificate):
        for claim in claims:
            self.assert_accepts(False, claim, certificate)


class Threads(CheckerTests):
    CAN = ("can", TEXT, "ann", "ann", ">>")
    THREAD = (("bob", "two"), ("ann", "two"))

    def test_right_certificates(self):
        self.assert_accepts(True, self.CAN, self.THREAD)
        # It need not be the shortest one.
        self.assert_accepts(True, self.CAN, self.THREAD * 2)
        self.assert_accepts(True, ("can", TEXT, "ann", "bob", ">>"), self.THREAD * 2 + self.THREAD[:1])
        self.assert_accepts(True, ("can", TEXT, "bob", "bob", ""), ())
        threads = (self.THREAD, self.THREAD[1:] + self.THREAD)
        self.assert_accepts(True, ("confused", TEXT, "ann", ">>", "ann", "bob"), threads)
        self.assert_accepts(True, ("gone", LEAVES, "a"), (("b", "p"), ("a", "p"), ("b", "p")))
        self.assert_accepts(True, ("gone", LEAVES, "b"), (("a", "p"), ("b", "p"), ("a", "p")))

    def test_two_people_in_any_order(self):
        one, other = self.THREAD, self.THREAD[1:] + self.THREAD
        self.assert_accepts(True, ("confused", TEXT, "ann", ">>", "bob", "ann"), (other, one))
        self.assert_accepts(False, ("confused", TEXT, "ann", ">>", "bob", "ann"), (one, other))
        self.assert_accepts(False, ("confused", TEXT, "ann", ">>", "ann", "bob"), (other, one))
        self.assert_accepts(False, ("confused", TEXT, "ann", ">>", "ann", "ann"), (one, one))
        self.assert_accepts(False, ("confused", TEXT, "ann", ">>", "ann", "ann"), (one, one * 2))
        self.assert_accepts(False, ("confused", TEXT, "bob", ">>", "ann", "bob"), (one, other))
        self.assert_accepts(False, ("confused", TEXT, "ann", ">", "ann", "bob"), (one, other))

    def test_threads_that_lead_elsewhere(self):
        for claim in (("can", TEXT, "ann", "bob", ">>"), ("can", TEXT, "ann", "ann", ">"),
                      ("can", TEXT, "ann", "ann", ""),
                      ("can", TEXT, "bob", "ann", ">>"), ("can", TEXT, "ann", "ann", ">>>")):
            self.assert_accepts(False, claim, self.THREAD)
        for thread in ((), self.THREAD[:1], self.THREAD[1:], self.THREAD[::-1], self.THREAD + self.THREAD[:1],
                       (("ann", "two"),), (("bob", "two"), ("bob", "two")), (("bob", "one"), ("ann", "two"))):
            self.assert_accepts(False, self.CAN, thread)

    def test_what_is_no_thread(self):
        for value in [*STRANGE, "two", ("bob", "two"), [("bob", "two"), ("ann", "two")],
                      (["bob", "two"], ["ann", "two"]),
                      (("bob", "two", "ann"), ("ann", "two", "bob")), (*self.THREAD, None), (None, *self.THREAD),
                      (("bob", EqualToAll()), ("ann", "two"))]:
            self.assert_accepts(False, self.CAN, value)
            if not isinstance(value, tuple) or len(value) > 0:
                self.assert_accepts(False, ("can", TEXT, "ann", "ann", ""), value)
            self.assert_accepts(False, ("gone", LEAVES, "a"), value)
            self.assert_accepts(False, ("confused", TEXT, "ann", ">>", "ann", "bob"), value)
            self.assert_accepts(False, ("confused", TEXT, "ann", ">>", "ann", "bob"), (self.THREAD, value))
            self.assert_accepts(False, ("confused", TEXT, "ann", ">>", "ann", "bob"),
                                (value, self.THREAD[1:] + self.THREAD))

    def test_the_pair_of_threads(self):
        claim, one, other = ("confused", TEXT, "ann", ">>", "ann", "bob"), self.THREAD, self.THREAD[1:] + self.THREAD
        self.assert_accepts(True, claim, (one, other))
        for value in ([one, other], (one,), (one, other, other), (one, other, ()), one, other, {one: 1, other: 2}):
            self.assert_accepts(False, claim, value)

    def test_gone_at_the_last_answer_and_not_before(self):
        claim, thread = ("gone", LEAVES, "a"), (("b", "p"), ("a", "p"), ("b", "p"))
        self.assert_accepts(True, claim, thread)
        for wrong in ((), thread[:1], thread[:2], (*thread, ("a", "p")), (*thread, *thread), thread[1:],
                      (*thread, None), (*thread[:2], ("a", "p")), (*thread[:2], ("b", "q"))):
            self.assert_accepts(False, claim, wrong)
        self.assert_accepts(False, ("gone", LEAVES, "b"), thread)
        self.assert_accepts(False, ("gone", LEAVES.replace("gone", ">>"), "a"), thread)
        # At the answer by which it is gone there is no standing.
        for marks in ("", ">", ">>", ">>>"):
            self.assert_accepts(False, ("can", LEAVES, "a", "b", marks), thread)


class Machines(CheckerTests):
    NEVER = ("never", TEXT, "ann", "ann", ">")

    def test_right_certificates(self):
        self.assertTrue(is_closed(TWO, MACHINE, "ann"))
        self.assert_accepts(True, self.NEVER, MACHINE)
        for sender, marks in (("ann", ">"), ("ann", ">>>"), ("ann", "|"), ("bob", ""), ("bob", "|>"),
                              ("ann", "#" * 50)):
            self.assert_accepts(True, ("never", TEXT, "ann", sender, marks), MACHINE)
        for sender, marks in (("ann", ""), ("bob", ">"), ("ann", ">>"), ("bob", ">>")):
            self.assert_accepts(False, ("never", TEXT, "ann", sender, marks), MACHINE)
        self.assert_accepts(True, ("kept", TEXT, "ann"), MACHINE)
        self.assert_accepts(False, ("kept", TEXT, "bob"), MACHINE)
        for many in (2, 3, 20, 21, 100, 10 ** 39):
            self.assert_accepts(True, ("within", TEXT, "ann", many), MACHINE)
        for many in (0, 1):
            self.assert_accepts(False, ("within", TEXT, "ann", many), MACHINE)

    def test_an_empty_book(self):
        text = "person a >\nprogram p\nelse: >"
        for node in (0, 1, -1, 7, 10 ** 39, -10 ** 39):
            machine = (("a", "_", node),)
            self.assert_accepts(True, ("never", text, "a", "a", ">"), machine)
            self.assert_accepts(False, ("never", text, "a", "a", ""), machine)
            self.assert_accepts(True, ("kept", text, "a"), machine)
            self.assert_accepts(True, ("within", text, "a", 0), machine)

    def test_arrows_doubled_and_nodes_exchanged(self):
        self.assert_accepts(True, self.NEVER, MACHINE * 2)
        self.assert_accepts(True, self.NEVER, MACHINE[::-1])
        for numbers in ({0: 5, 1: 0, 2: -1, 3: 10 ** 30}, {0: 3, 3: 0}, {1: 2, 2: 3, 3: 1}):
            exchanged = tuple([(numbers.get(start, start), sign, numbers.get(goal, goal)) for start, sign,
                               goal in MACHINE])
            self.assert_accepts(True, self.NEVER, exchanged)
        # Two nodes that become one.
        joined = tuple([(2 if start == 3 else start, sign, 2 if goal == 3 else goal) for start, sign, goal in MACHINE])
        self.assert_accepts(True, self.NEVER, joined)
        joined = tuple([(2 if start == 1 else start, sign, 2 if goal == 1 else goal) for start, sign, goal in MACHINE])
        self.assertTrue(plainly_accepts(("kept", TEXT, "ann"), joined))
        self.assert_accepts(True, ("kept", TEXT, "ann"), joined)
        self.assert_accepts(False, self.NEVER, joined)
        self.assert_accepts(False, ("within", TEXT, "ann", 20), joined)

    def test_arrows_with_nothing(self):
        split = (*[arrow for arrow in MACHINE if arrow != (1, "_", 0)], (1, "", 4), (4, "", 5), (5, "_", 6), (6, "", 0))
        for claim in (self.NEVER, ("kept", TEXT, "ann"), ("within", TEXT, "ann", 2)):
            self.assert_accepts(True, claim, split)
            # In circles, too.
            self.assert_accepts(True, claim, (*split, (5, "", 1), (4, "", 4), (1, "", 1)))
        # From one person to the other one and back: what one of them reads the other one reads, too.
        both = (*MACHINE, ("bob", "", "ann"), ("ann", "", "bob"))
        self.assert_accepts(True, ("never", TEXT, "ann", "bob", ">>>"), both)
        self.assert_accepts(False, ("never", TEXT, "ann", "bob", ""), both)
        self.assert_accepts(False, self.NEVER, both)
        self.assert_accepts(False, ("kept", TEXT, "ann"), both[:-1])
        # With an arrow that comes from it there is no end any more.
        self.assert_accepts(False, self.NEVER, (*MACHINE, (0, "", 0)))
        # Where nothing but another node comes behind it, this one is the end.
        self.assert_accepts(True, self.NEVER, (*MACHINE, (0, "", 7)))
        self.assert_accepts(False, self.NEVER, (*MACHINE, (0, "", 7), (0, "", 8)))

    def test_names_that_are_no_peoples(self):
        for name in ("eve", "two", "Ann", "", "ann ", "a", "_", ">"):
            for more in ((name, ">", 1), (1, ">", name), (name, "", name)):
                self.assert_accepts(False, self.NEVER, (*MACHINE, more))
                self.assert_accepts(False, ("kept", TEXT, "ann"), (more, *MACHINE))

    def test_ends(self):
        without = tuple([arrow for arrow in MACHINE if arrow[2] != 0])
        self.assert_accepts(False, ("kept", TEXT, "ann"), without)
        self.assert_accepts(False, ("kept", TEXT, "ann"), ())
        self.assert_accepts(False, self.NEVER, ())
        # Two of them.
        two = (*MACHINE, ("ann", "_", 9))
        self.assert_accepts(False, self.NEVER, two)
        self.assert_accepts(True, self.NEVER, (*MACHINE, (8, "_", 9)))
        self.assert_accepts(True, self.NEVER, (*MACHINE, (9, ">", 8)))
        # Only one is an end if there is an arrow from the other one.
        closed = (*two, (1, "_", 9), (9, ">", 8))
        self.assert_accepts(True, self.NEVER, closed)
        # From the end no arrow comes, whatever it reads.
        for sign in (*SIGNS, "_", ""):
            self.assert_accepts(False, self.NEVER, (*MACHINE, (0, sign, 1)))
        # An end is an integer.
        named = tuple([(start, sign, "bob" if goal == 0 else goal) for start, sign, goal in MACHINE])
        self.assert_accepts(False, ("kept", TEXT, "ann"), named)

    def test_rules_that_it_is_not_closed_under(self):
        for at in range(len(MACHINE)):
            fewer = MACHINE[:at] + MACHINE[at + 1:]
            self.assert_accepts(plainly_accepts(self.NEVER, fewer), self.NEVER, fewer)
        self.assert_accepts(False, self.NEVER, MACHINE[:1])
        # Each node that is reached counts, also one from which nothing comes.
        self.assert_accepts(False, self.NEVER, (*MACHINE, ("bob", ">", 7), (7, "_", 8)))
        self.assert_accepts(True, self.NEVER, (*MACHINE, ("bob", ">", 7)))
        self.assert_accepts(False, self.NEVER, (*MACHINE, ("bob", ">", 7), (7, ">", 8)))

    def test_signs_that_the_book_has_not(self):
        # Its programs never meet them, so no rule tells of them.
        more = (*MACHINE, ("ann", "#", 1), ("bob", "#", 4), (4, "*", 4), (4, "_", 0))
        self.assert_accepts(True, self.NEVER, more)
        self.assert_accepts(False, ("never", TEXT, "ann", "ann", "#"), more)
        self.assert_accepts(False, ("within", TEXT, "ann", 20), more)

    def test_machines_that_read_what_they_must_not(self):
        # It is closed, but reads more than lines of ann have.
        more = (*MACHINE, ("ann", ">", 1))
        self.assertTrue(is_closed(TWO, more, "ann"))
        self.assert_accepts(False, self.NEVER, more)
        self.assert_accepts(True, ("never", TEXT, "ann", "ann", ">>>"), more)
        # Something that is left out.
        machine = (("a", "_", 0), ("b", ">", 1), (1, "_", 0), ("a", ">", 2), (2, ">", 1))
        self.assert_accepts(True, ("kept", LEAVES.replace("\nanswer a p b", ""), "a"), machine[:3])
        self.assert_accepts(False, ("kept", LEAVES, "a"), machine[:3])
        self.assert_accepts(False, ("kept", LEAVES, "a"), (*machine, ("b", ">", 3), (3, ">", 2)))
        # Also where it does not lead to the end.
        book = LEAVES.replace("\nanswer a p b", "")
        self.assert_accepts(True, ("kept", book, "a"), (*machine[:3], (8, ">", 9)))
        more = (*machine[:3], ("a", ">", 8), (8, ">", 9))
        self.assertTrue(is_closed(Book.read(book), more, "a"))
        self.assert_accepts(False, ("kept", book, "a"), more)

    def test_within_with_loops(self):
        text = "person a >\nprogram p\nelse: >\nanswer a p a"
        machine = (("a", "_", 0), ("a", ">", 1), (1, "_", 0), (1, ">", 1))
        self.assertTrue(is_closed(Book.read(text), machine, "a"))
        for many in (0, 1, 2, 3, 4, 5, 20, 100, 10 ** 6, 10 ** 39):
            self.assert_accepts(False, ("within", text, "a", many), machine)
        self.assert_accepts(True, ("kept", text, "a"), machine)
        self.assert_accepts(True, ("never", text, "a", "a", ">#"), machine)
        # A loop that no person reads, or from which nothing leads to the end, does no harm.
        empty = "person a >\nprogram p\nelse: >"
        for more in (((5, ">", 5), (5, "_", 0)), (("a", ">", 5), (5, ">", 5)),
                     (("a", ">", 5), (5, ">", 5), (5, "_", 6)),
                     (("a", "", "a"),), ((5, "", 5), (5, "_", 0))):
            self.assert_accepts(True, ("within", empty, "a", 0), (("a", "_", 0), *more))
        # The signs come ahead of the end, and the end comes once.
        self.assert_accepts(True, ("within", empty, "a", 0), (("a", "_", 0), ("a", ">", 5), (5, ">", 6)))
        self.assert_accepts(True, ("within", empty, "a", 1), (("a", "_", 0), ("a", ">", 5), (5, "_", 0)))
        self.assert_accepts(False, ("within", empty, "a", 0), (("a", "_", 0), ("a", ">", 5), (5, "_", 0)))
        self.assert_accepts(True, ("within", empty, "a", 0), (("a", "_", 0), ("a", ">", 5), (5, "_", 6), (6, "_", 0)))
        self.assert_accepts(True, ("within", empty, "a", 0), (("a", "_", 0), ("a", "_", 5), (5, ">", 0)))

    def test_within_small_and_great_numbers(self):
        # A chain of nine signs to the end, closed as there are no answers.
        empty = "person a >\nprogram p\nelse: >"
        chain = (("a", "_", 0), ("a", ">", 1), *[(node, "#", node + 1) for node in range(1, 9)], (9, "_", 0))
        for many in (0, 1, 7, 8):
            self.assert_accepts(False, ("within", empty, "a", many), chain)
        for many in (9, 10, 11, 20, 1000, 10 ** 39):
            self.assert_accepts(True, ("within", empty, "a", many), chain)
        looped = (*chain, (9, "=", 2))
        for many in (0, 8, 9, 10, 17, 20, 1000, 10 ** 39):
            self.assert_accepts(False, ("within", empty, "a", many), looped)
        # Two people: from neither of them.
        other = (("a", "_", 0), ("b", ">", 1), (1, ">", 2), (2, "_", 0))
        text = "person a >\nperson b >\nprogram p\nelse: >"
        self.assert_accepts(False, ("within", text, "a", 1), other)
        self.assert_accepts(True, ("within", text, "a", 2), other)

    def test_what_is_no_machine(self):
        claims = (self.NEVER, ("kept", TEXT, "ann"), ("within", TEXT, "ann", 2))
        for claim in claims:
            self.assert_accepts(True, claim, MACHINE)
            for value in [*STRANGE, TEXT, list(MACHINE), [list(arrow) for arrow in MACHINE],
                          {arrow: 1 for arrow in MACHINE},
                          MACHINE[0], (MACHINE,), set(MACHINE), tuple([list(arrow) for arrow in MACHINE])]:
                self.assert_accepts(False, claim, value)
            wrong = [(0, 1), (1, ">", 1, 1), (1,), (), "1>1", [1, ">", 1], (1, "@", 1), (1, ">>", 1), (1, "a", 1),
                     (1, "__", 1), (1, " ", 1), (1, ">_", 1), (1, SIGNS, 1), (True, ">", 1), (1, ">", False),
                     ("1", ">", 1)]
            for value in STRANGE:
                wrong += [value, (1, value, 1)]
                if value.__class__ is not int:
                    wrong += [(value, ">", 1), (1, ">", value)]
            for value in wrong:
                self.assert_accepts(False, claim, (*MACHINE, value))
                self.assert_accepts(False, claim, (value, *MACHINE))

    def test_true_and_false_are_no_nodes(self):
        exchanged = tuple([tuple([True if part == 1 else part for part in arrow]) for arrow in MACHINE])
        self.assertEqual(exchanged, MACHINE)
        self.assert_accepts(False, self.NEVER, exchanged)
        exchanged = tuple([tuple([False if part == 0 else part for part in arrow]) for arrow in MACHINE])
        self.assert_accepts(False, self.NEVER, exchanged)


class Changed(CheckerTests):
    """Machines that are changed in places, against a plain look at them and against what is true."""

    def changed(self, draw, book, machine):
        arrows = list(machine)
        nodes = [*book.names, *[node for start, _, goal in machine for node in (start, goal)], 900]
        for _ in range(draw.randint(1, 2)):
            kind, at = draw.randint(0, 4), draw.randrange(len(arrows))
            start, sign, goal = arrows[at]
            if kind == 0 and len(arrows) > 1:
                del arrows[at]
            elif kind == 1:
                arrows.append((draw.choice(nodes), draw.choice(("", "_", *book.signs)), draw.choice(nodes)))
            elif kind == 2:
                arrows[at] = (start, sign, draw.choice(nodes))
            elif kind == 3:
                arrows[at] = (start, draw.choice(("", "_", *book.signs)), goal)
            else:
                one, other = draw.choice(nodes), draw.choice(nodes)
                arrows = [tuple([other if part == one else part for part in arrow]) for arrow in arrows]
        return tuple(arrows)

    def test_changed_machines(self):
        draw = random.Random(1)
        kinds = []
        for _ in range(150):
            book = drawn_book(draw, draw.choice((1, 2)), draw.choice((1, 2)), draw.choice((1, 2, 3)),
                              lengths=(0, 1, 1, 2))
            writer, sender = draw.choice(book.names), draw.choice(book.names)
            marks = "".join([draw.choice(book.signs) for _ in range(draw.randint(0, 2))])
            found = [certify_never(book, writer, sender, marks), certify_kept(book, writer),
                     certify_within(book, writer, draw.randint(0, 3))]
            for claim, machine in [pair for pair in found if pair is not None and len(pair[1]) <= 40]:
                self.assertTrue(plainly_accepts(claim, machine))
                for _ in range(4):
                    changed = self.changed(draw, book, machine)
                    wanted = plainly_accepts(claim, changed)
                    kinds.append((claim[0], wanted))
                    self.assert_accepts(wanted, claim, changed)

        for word in ("never", "kept", "within"):
            self.assertGreater(kinds.count((word, True)), 20)
            self.assertGreater(kinds.count((word, False)), 20)

    def test_nothing_false_is_accepted(self):
        """Machines for one claim are shown for others: for other books, people, marks and numbers."""
        draw = random.Random(2)
        kinds = []
        for _ in range(150):
            book = drawn_book(draw, 2, draw.choice((1, 2)), draw.choice((2, 3)), lengths=(0, 1, 1, 2))
            other = book.with_answers(book.answers[1:])
            machines = [pair[1] for pair in [certify_never(which, name, "ann", "#" * 9) for which in (book, other)
                        for name in book.names if "ann" in book.names] if pair is not None]
            for machine in machines:
                for claim in (("never", str(book), draw.choice(book.names), draw.choice(book.names),
                               draw.choice(book.signs)),
                              ("kept", str(book), draw.choice(book.names)),
                              ("within", str(book), draw.choice(book.names), draw.randint(0, 3))):
                    shown = machine if draw.random() < 0.5 else self.changed(draw, book, machine)
                    if accepts(claim, shown):
                        self.assertTrue(is_true(claim), (claim, shown))
                        kinds.append(True)
                    else:
                        kinds.append(is_true(claim))
        self.assertGreater(kinds.count(True), 50)
        self.assertGreater(kinds.count(False), 50)


class Claims(CheckerTests):
    RIGHT = [
        (("can", TEXT, "ann", "ann", ">>"), Threads.THREAD),
        (("confused", TEXT, "ann", ">>", "ann", "bob"), (Threads.THREAD, Threads.THREAD[1:] + Threads.THREAD)),
        (("gone", LEAVES, "a"), (("b", "p"), ("a", "p"), ("b", "p"))),
        (("never", TEXT, "ann", "ann", ">"), MACHINE),
        (("kept", TEXT, "ann"), MACHINE),
        (("within", TEXT, "ann", 2), MACHINE),
    ]

    def test_each_part_of_another_kind(self):
        for claim, certificate in self.RIGHT:
            self.assert_accepts(True, claim, certificate)
            for at in range(len(claim)):
                for value in STRANGE:
                    if claim[0] != "within" or at != 3 or value.__class__ is not int or value < 2:
                        self.assert_accepts(False, (*claim[:at], value, *claim[at + 1:]), certificate)

    def test_other_sizes_and_kinds(self):
        for claim, certificate in self.RIGHT:
            for value in (list(claim), claim[:-1], (*claim, claim[-1]), (*claim, None), (claim,), claim[1:],
                          claim[::-1],
                          {part: 1 for part in claim}, " ".join([str(part) for part in claim])):
                self.assert_accepts(False, value, certificate)
            for at in range(len(claim)):
                self.assert_accepts(False, claim[:at], certificate)

    def test_other_words(self):
        for claim, certificate in self.RIGHT:
            for word in ("", "Can", "can ", "clear", "tells", "canconfused", "ca", "P",
                         *[other[0] for other, _ in self.RIGHT]):
                if word != claim[0]:
                    if (word, claim[0]) not in (("kept", "never"), ("never", "kept")):
                        self.assert_accepts(False, (word, *claim[1:]), certificate)

    def test_what_is_no_text_of_a_book(self):
        for claim, certificate in self.RIGHT:
            for text in [*NO_TEXTS, TWO, claim[1].replace("begin >>", "begin  >>"), claim[1] + "\n" + claim[1]]:
                self.assert_accepts(False, (claim[0], text, *claim[2:]), certificate)
        # Too many signs.
        text = "person a >\nprogram p\nonly: #*\nelse: +"
        self.assert_accepts(True, ("kept", text, "a"), (("a", "_", 0),))
        self.assert_accepts(False, ("kept", text + ":", "a"), (("a", "_", 0),))

    def test_names_that_are_not_there(self):
        for claim, certificate in self.RIGHT:
            for at, part in enumerate(claim):
                if at > 1 and part in ("ann", "bob", "a"):
                    for name in [*NO_NAMES, "eve", "two", "p", "annn"]:
                        self.assert_accepts(False, (*claim[:at], name, *claim[at + 1:]), certificate)

    def test_what_are_no_marks(self):
        for marks in ("@", "a", " ", "_", ">_", ">> ", "none", "\n", "> >", b">>", (">", ">"), [">", ">"]):
            self.assert_accepts(False, ("can", TEXT, "ann", "ann", marks), Threads.THREAD)
            self.assert_accepts(False, ("confused", TEXT, "ann", marks, "ann", "bob"), self.RIGHT[1][1])
            self.assert_accepts(False, ("never", TEXT, "ann", "ann", marks), MACHINE)

    def test_what_is_no_number(self):
        for many in (True, False, -1, -10 ** 39, "2", (2,), None, [2], b"2"):
            self.assert_accepts(False, ("within", TEXT, "ann", many), MACHINE)
        text = "person a >\nprogram p\nelse: >"
        for many in (True, False, -1):
            self.assert_accepts(False, ("within", text, "a", many), (("a", "_", 0),))

    def test_values_of_any_kind(self):
        for one in STRANGE:
            for other in STRANGE:
                self.assert_accepts(False, one, other)
            for claim, certificate in self.RIGHT:
                self.assert_accepts(False, one, certificate)
                self.assert_accepts(False, claim, one)

    def test_nothing_is_changed_and_equal_calls_return_equal_results(self):
        for claim, certificate in self.RIGHT:
            before = repr((claim, certificate))
            self.assertEqual([True] * 3, [accepts(claim, certificate) for _ in range(3)])
            self.assertEqual(before, repr((claim, certificate)))

    def test_the_interface_is_defined_in_its_file(self):
        self.assertEqual("quotedthreads.checker", accepts.__module__)
        self.assertIs(accepts, checker.accepts)
