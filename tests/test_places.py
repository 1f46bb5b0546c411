"""Promise [9]: places and inputs."""

import unittest

from runlore.errors import NoPlace
from runlore.places import is_place, value_at, with_part
from runlore.values import Fault

INPUTS = {'x': (5, ('red', (1, 2)), ()), 'y': 7, 'z': 'red', 'f': Fault('read')}


class PlaceTest(unittest.TestCase):
    def test_places(self):
        for thing in (('x',), ('x', 0), ('abcdefgh', 0, 20, 3)):
            self.assertIs(is_place(thing), True, thing)
        self.assertIs(is_place(thing=('x',)), True)

    def test_no_places(self):
        for thing in ((), 'x', ['x'], ('',), ('X',), ('abcdefghi',), (0,), ('x', -1), ('x', True), ('x', False),
                      ('x', 'y'), ('x', None), ('x', 1.0), ('x', (0,)), ('x', [0]), (('x',),), (True,), None, 3, True,
                      ('x', 0, -1), (['x'],)):
            self.assertIs(is_place(thing), False, thing)

    def test_value_at(self):
        for place, value in ((('x',), INPUTS['x']), (('x', 0), 5), (('x', 1, 0), 'red'), (('x', 1, 1), (1, 2)),
                             (('x', 1, 1, 1), 2), (('x', 2), ()), (('y',), 7), (('z',), 'red')):
            self.assertEqual(value_at(INPUTS, place), value)
        self.assertEqual(value_at(inputs=INPUTS, place=('y',)), 7)

    def test_no_value_there(self):
        for place in (('n',), ('n', 0), ('f',), ('f', 0), ('x', 3), ('x', 0, 0), ('x', 1, 0, 0), ('y', 0), ('z', 0),
                      ('x', 2, 0), ('x', 1, 1, 2)):
            with self.assertRaises(NoPlace) as caught:
                value_at(INPUTS, place)
            self.assertEqual(caught.exception.place, place)
            if len(place) > 1:
                with self.assertRaises(NoPlace) as caught:
                    with_part(INPUTS, place, 0)
                self.assertEqual(caught.exception.place, place)

    def test_with_part(self):
        self.assertEqual(with_part(INPUTS, ('x', 1, 1, 0), 'b')['x'], (5, ('red', ('b', 2)), ()))
        self.assertEqual(with_part(INPUTS, ('x', 0), (1,))['x'], ((1,), ('red', (1, 2)), ()))
        self.assertEqual(with_part(INPUTS, ('y',), (0,)), {**INPUTS, 'y': (0,)})
        self.assertEqual(with_part(inputs=INPUTS, place=('z',), value=0)['z'], 0)

    def test_a_name_alone_must_only_be_a_key(self):
        self.assertEqual(with_part(INPUTS, ('f',), 3)['f'], 3)
        with self.assertRaises(NoPlace) as caught:
            with_part(INPUTS, ('n',), 3)
        self.assertEqual(caught.exception.place, ('n',))

    def test_inputs_are_not_changed(self):
        inputs = {'x': (1, (2, 3)), 'y': 4}
        changed = with_part(inputs, ('x', 1, 0), 9)
        self.assertEqual(inputs, {'x': (1, (2, 3)), 'y': 4})
        self.assertEqual(changed, {'x': (1, (9, 3)), 'y': 4})
        changed['y'] = 5
        self.assertEqual(inputs['y'], 4)
        same = with_part(inputs, ('y',), 4)
        self.assertEqual(same, inputs)
        self.assertIsNot(same, inputs)


if __name__ == '__main__':
    unittest.main()
