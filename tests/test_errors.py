"""[10]: the errors, their families and their fields."""

import unittest

from allpieces import errors
from allpieces.errors import (
    Barred, InvalidEvent, InvalidPaper, InvalidRow, InvalidText, NetError, NothingToUndo, NotUsable, PaperError,
    PieceError, SpreadError, TextError,
)

FAMILIES = (PaperError, NetError, SpreadError, TextError)
FIELDS = {
    InvalidPaper: (PaperError, ('word', 'at')),
    NotUsable: (NetError, ('word', 'at')),
    InvalidEvent: (SpreadError, ('event', 'reason')),
    NothingToUndo: (SpreadError, ('steps',)),
    Barred: (SpreadError, ('event', 'houses')),
    InvalidText: (TextError, ('line', 'field')),
    InvalidRow: (TextError, ('row',)),
}


class Untouchable:
    """A value that cannot be looked into."""

    def __eq__(self, other):
        raise AssertionError('compared')

    def __hash__(self):
        raise AssertionError('hashed')

    def __repr__(self):
        raise AssertionError('shown')

    def __bool__(self):
        raise AssertionError('tested')

    def __len__(self):
        raise AssertionError('measured')

    def __iter__(self):
        raise AssertionError('iterated')


class ErrorsTest(unittest.TestCase):

    def test_families(self):
        self.assertEqual(PieceError.__bases__, (ValueError,))
        for family in FAMILIES:
            self.assertEqual(family.__bases__, (PieceError,))

    def test_each_error_is_of_its_own_family_alone(self):
        for error, (family, _) in FIELDS.items():
            self.assertEqual(error.__bases__, (family,))
            self.assertEqual([each for each in FAMILIES if issubclass(error, each)], [family])
            self.assertEqual([each for each in FIELDS if issubclass(error, each)], [error])

    def test_all_are_defined_in_the_module(self):
        for error in (PieceError, *FAMILIES, *FIELDS):
            self.assertEqual(error.__module__, 'allpieces.errors')
            self.assertIs(getattr(errors, error.__name__), error)

    def test_fields_by_position_and_by_name(self):
        for error, (_, names) in FIELDS.items():
            for values in ([1, True], [None, (1, 'a')], [['a'], []], [Untouchable(), Untouchable()]):
                values = values[:len(names)]
                for made in (error(*values), error(**dict(zip(names, values)))):
                    self.assertEqual(list(vars(made)), list(names))
                    for name, value in zip(names, values):
                        self.assertIs(getattr(made, name), value)

    def test_names_in_another_order(self):
        made = InvalidPaper(at=3, word='wire')
        self.assertEqual((made.word, made.at), ('wire', 3))

    def test_exactly_its_fields(self):
        for error, (_, names) in FIELDS.items():
            values = list(range(len(names)))
            with self.assertRaises(TypeError):
                error(*values[1:])
            with self.assertRaises(TypeError):
                error(*values, 0)
            with self.assertRaises(TypeError):
                error(*values, other=0)

    def test_they_are_raised_and_caught_by_family(self):
        for error, (family, names) in FIELDS.items():
            for caught in (error, family, PieceError, ValueError):
                with self.assertRaises(caught):
                    raise error(*names)


if __name__ == '__main__':
    unittest.main()
