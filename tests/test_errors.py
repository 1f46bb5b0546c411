"""Promise [5]: errors."""

import unittest

from runlore import errors

SHAPES = {
    'NoText': ('at',), 'NoBook': ('word', 'name', 'path'), 'NoSheet': ('word', 'name'), 'NoWord': ('at',),
    'NoNote': ('at',), 'NoInput': (), 'TooMany': ('most',), 'TooBig': ('most',),
    'NoPlace': ('place',), 'NoCell': ('name',)}
ANYTHING = (3, 'red', ('x', 0), None, True, [1, {'a': 2}], -1.5)


class ErrorsTest(unittest.TestCase):
    def test_bases(self):
        self.assertEqual(errors.LoreError.__bases__, (ValueError,))
        for name in SHAPES:
            base = KeyError if name in ('NoPlace', 'NoCell') else errors.LoreError
            self.assertEqual(getattr(errors, name).__bases__, (base,), name)

    def test_there_are_ten_and_the_base(self):
        found = [name for name, thing in vars(errors).items() if isinstance(thing, type)]
        self.assertEqual(sorted(found), sorted([*SHAPES, 'LoreError']))

    def test_attributes_by_position_and_by_name(self):
        for name, shape in SHAPES.items():
            kind = getattr(errors, name)
            for first in range(len(ANYTHING)):
                things = [ANYTHING[(first + k) % len(ANYTHING)] for k in range(len(shape))]
                for error in (kind(*things), kind(**dict(zip(shape, things)))):
                    self.assertEqual([getattr(error, key) for key in shape], things)

    def test_arguments_are_needed(self):
        for name, shape in SHAPES.items():
            if shape:
                with self.assertRaises(TypeError):
                    getattr(errors, name)()

    def test_raised_and_caught(self):
        with self.assertRaises(ValueError) as caught:
            raise errors.NoWord(4)
        self.assertEqual(caught.exception.at, 4)
        with self.assertRaises(KeyError) as caught:
            raise errors.NoPlace(place=('x', 1))
        self.assertEqual(caught.exception.place, ('x', 1))


if __name__ == '__main__':
    unittest.main()
