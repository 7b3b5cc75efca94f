"""[3]: the classes of the refusals."""

import unittest

from fewways import errors

NAMES = ["NoWeb", "NoPlace", "NoWay", "NoParting", "TooMany", "NoForest", "NoPlan", "NoOneWay", "NoOrder", "NoText",
         "NoDeed", "NoRow"]


class Classes(unittest.TestCase):
    def test_any_refusal_stands_under_value_error(self):
        self.assertEqual(errors.FewError.__bases__, (ValueError,))

    def test_each_stands_straight_under_few_error(self):
        for name in NAMES:
            self.assertEqual(getattr(errors, name).__bases__, (errors.FewError,), name)

    def test_none_stands_under_another(self):
        for name in NAMES:
            for other in NAMES:
                under = issubclass(getattr(errors, name), getattr(errors, other))
                self.assertEqual(under, name == other, (name, other))

    def test_each_is_made_with_a_text(self):
        for name in ["FewError"] + NAMES:
            self.assertEqual(str(getattr(errors, name)("so it is")), "so it is")


if __name__ == "__main__":
    unittest.main()
