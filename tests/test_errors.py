import unittest

from quotedthreads import errors
from quotedthreads.errors import CannotBe, NotRight, NotThere
from tests.values import STRANGE

BASES = (
    (NotRight, ValueError),
    (NotThere, LookupError),
    (CannotBe, ArithmeticError),
)

GIVEN = ("given",)
INDEX = ("index",)

LISTED = (
    ("InvalidName", NotRight, GIVEN),
    ("InvalidMarks", NotRight, GIVEN),
    ("InvalidSign", NotRight, GIVEN),
    ("InvalidText", NotRight, GIVEN),
    ("InvalidCount", NotRight, GIVEN),
    ("InvalidPlace", NotRight, GIVEN),
    ("InvalidClaim", NotRight, GIVEN),
    ("NotAProgram", NotRight, GIVEN),
    ("NotABook", NotRight, GIVEN),
    ("InvalidCases", NotRight, INDEX),
    ("InvalidPeople", NotRight, INDEX),
    ("InvalidPrograms", NotRight, INDEX),
    ("InvalidAnswers", NotRight, INDEX),
    ("InvalidThread", NotRight, INDEX),
    ("InvalidTexts", NotRight, INDEX),
    ("InvalidLeft", NotRight, INDEX),
    ("InvalidExchanges", NotRight, INDEX),
    ("InvalidSigns", NotRight, INDEX),
    ("UnknownPerson", NotThere, GIVEN),
    ("UnknownProgram", NotThere, GIVEN),
    ("UnknownAnswer", NotThere, GIVEN),
    ("TooManySigns", CannotBe, ("many",)),
    ("NothingToUndo", CannotBe, ()),
    ("Broken", CannotBe, ("index", "shown")),
)


class Bases(unittest.TestCase):
    def test_each_is_right_under_its_own_of_python(self):
        for base, above in BASES:
            with self.subTest(base=base):
                self.assertEqual((above,), base.__bases__)
                self.assertEqual("quotedthreads.errors", base.__module__)

    def test_each_can_be_made_and_raised(self):
        for base, above in BASES:
            with self.subTest(base=base), self.assertRaises(above):
                raise base()

    def test_none_is_under_another_one(self):
        for base, _ in BASES:
            self.assertEqual([base], [other for other, _ in BASES if issubclass(base, other)])


class Listed(unittest.TestCase):
    def test_each_is_of_its_one_base_class_and_of_no_other_of_the_package(self):
        for name, base, _ in LISTED:
            with self.subTest(name=name):
                made = getattr(errors, name)
                self.assertEqual((base,), made.__bases__)
                own = [above for above in made.__mro__ if above.__module__.startswith("quotedthreads")]
                self.assertEqual([made, base], own)
                self.assertEqual(name, made.__name__)
                self.assertEqual("quotedthreads.errors", made.__module__)

    def test_no_other_classes_are_there(self):
        there = [name for name in vars(errors) if not name.startswith("_")]
        wanted = [name for name, _, _ in LISTED] + [base.__name__ for base, _ in BASES]
        self.assertEqual(sorted(wanted), sorted(there))

    def test_made_by_position_and_by_name_with_whatever_is_passed(self):
        for name, _, attributes in LISTED:
            made = getattr(errors, name)
            for k in range(len(STRANGE)):
                # Other values for each attribute, so that none can be taken for another one.
                told = [STRANGE[(k + 7 * at) % len(STRANGE)] for at in range(len(attributes))]
                by_name = dict(zip(attributes, told))
                for error in (made(*told), made(**by_name)):
                    for attribute, value in by_name.items():
                        with self.subTest(name=name, attribute=attribute, value=k):
                            self.assertIs(value, getattr(error, attribute))

    def test_the_names_may_stand_in_any_order(self):
        error = errors.Broken(shown="b", index=3)
        self.assertEqual((3, "b"), (error.index, error.shown))
        error = errors.Broken(4, shown=None)
        self.assertEqual((4, None), (error.index, error.shown))

    def test_only_the_listed_attributes_are_set(self):
        for name, _, attributes in LISTED:
            error = getattr(errors, name)(*attributes)
            with self.subTest(name=name):
                self.assertEqual(sorted(attributes), sorted(vars(error)))

    def test_each_attribute_is_asked_for(self):
        for name, _, attributes in LISTED:
            with self.subTest(name=name):
                if attributes:
                    self.assertRaises(TypeError, getattr(errors, name), *attributes[1:])
                    self.assertRaises(TypeError, getattr(errors, name), *attributes, None)

    def test_caught_as_what_it_is(self):
        for name, base, attributes in LISTED:
            made = getattr(errors, name)
            for caught in (made, base, base.__bases__[0]):
                with self.subTest(name=name, caught=caught), self.assertRaises(caught):
                    raise made(*attributes)

    def test_each_equals_itself_alone_and_is_true(self):
        for name, _, attributes in LISTED:
            made = getattr(errors, name)
            one, other = made(*attributes), made(*attributes)
            with self.subTest(name=name):
                self.assertTrue(one == one)
                self.assertFalse(one != one)
                self.assertFalse(one == other)
                self.assertTrue(one != other)
                self.assertTrue(one)
