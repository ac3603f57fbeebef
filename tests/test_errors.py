import unittest

from calmwires import errors

# Each refusal, made of what it is made of, with its fields.
MADE = {
    "NoText": ((3,), {"line": 3}),
    "Broken": (([0, 1],), {"way": [0, 1]}),
    "Crowded": (([2],), {"way": [2]}),
    "TooMany": ((), {}),
    "CalledOff": (([4, 5], 6, 7), {"way": [4, 5], "lost": 6, "by": 7}),
    "Clash": (([], [8, 9], 1), {"one": [], "other": [8, 9], "wire": 1}),
    "NoMove": ((), {}),
    "NoPlace": ((), {}),
}


class Refusals(unittest.TestCase):
    def test_base(self):
        self.assertEqual(errors.CalmError.__bases__, (ValueError,))

    def test_each_is_a_calm_error_and_a_value_error(self):
        for name, (arguments, fields) in MADE.items():
            error = getattr(errors, name)(*arguments)
            self.assertIsInstance(error, errors.CalmError, name)
            self.assertIsInstance(error, ValueError, name)

    def test_none_is_under_another(self):
        for name, (arguments, fields) in MADE.items():
            error = getattr(errors, name)(*arguments)
            for other in MADE:
                self.assertEqual(isinstance(error, getattr(errors, other)), other == name, (name, other))

    def test_fields(self):
        for name, (arguments, fields) in MADE.items():
            error = getattr(errors, name)(*arguments)
            self.assertEqual(vars(error), fields, name)

    def test_made_by_the_names_of_the_fields(self):
        for name, (arguments, fields) in MADE.items():
            self.assertEqual(vars(getattr(errors, name)(**fields)), fields, name)

    def test_raised_and_taken(self):
        for name, (arguments, fields) in MADE.items():
            with self.assertRaises(getattr(errors, name)):
                raise getattr(errors, name)(*arguments)

    def test_another_number_of_arguments(self):
        for name, (arguments, fields) in MADE.items():
            with self.assertRaises(TypeError):
                getattr(errors, name)(*arguments, 0)

    def test_ways_handed_in_may_change_later(self):
        one, other = [1], [2]
        broken, crowded = errors.Broken(one), errors.Crowded(one)
        off, clash = errors.CalledOff(one, 0, 1), errors.Clash(one, other, 0)
        one.append(5)
        other.append(6)
        self.assertEqual([broken.way, crowded.way, off.way, clash.one], [[1]] * 4)
        self.assertEqual(clash.other, [2])


if __name__ == "__main__":
    unittest.main()
