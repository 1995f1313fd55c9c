import ast
import inspect
import unittest

from hallofwords import errors

PLAIN = (
    "BadLetters BadRule BadNumber BadName TooDeep BadMachine TooMany TooGreat NotLeast NoWord NothingToUndo"
    " NothingToRedo BadTurner NotOne BadAnswer NoQuestion BadSheet"
).split()
WITH_FIELD = {
    "BadWord": "place",
    "BadSize": "size",
    "UnknownName": "name",
    "InUse": "name",
    "Ring": "name",
    "BadEntry": "place",
    "Contradiction": "word",
}


class ErrorsTest(unittest.TestCase):
    def test_each_stands_directly_under_hall_error(self):
        self.assertEqual(errors.HallError.__bases__, (ValueError,))
        for name in PLAIN + list(WITH_FIELD) + ["BadText"]:
            self.assertEqual(getattr(errors, name).__bases__, (errors.HallError,), name)

    def test_no_others(self):
        classes = [name for name, value in vars(errors).items() if inspect.isclass(value)]
        self.assertEqual(sorted(classes), sorted(PLAIN + list(WITH_FIELD) + ["BadText", "HallError"]))

    def test_they_are_defined_there(self):
        tree = ast.parse(inspect.getsource(errors))
        defined = [node.name for node in tree.body if isinstance(node, ast.ClassDef)]
        self.assertEqual(sorted(defined), sorted(PLAIN + list(WITH_FIELD) + ["BadText", "HallError"]))

    def test_made_without_arguments(self):
        for name in PLAIN:
            self.assertIsInstance(getattr(errors, name)(), errors.HallError)

    def test_fields_are_the_arguments(self):
        for name, field in WITH_FIELD.items():
            for value in (0, 7, "abc", ""):
                error = getattr(errors, name)(value)
                self.assertEqual(vars(error), {field: value}, name)
                with self.assertRaises(TypeError):
                    getattr(errors, name)()
        error = errors.BadText(3, 14)
        self.assertEqual((error.line, error.column), (3, 14))

    def test_two_errors_share_nothing(self):
        one, other = errors.BadSize(1), errors.BadSize(2)
        self.assertEqual((one.size, other.size), (1, 2))


if __name__ == "__main__":
    unittest.main()
