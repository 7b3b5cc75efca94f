"""The interface: all names are there, in their modules, with their arguments."""

import importlib
import inspect
import unittest

from things import INTERFACE


class Interface(unittest.TestCase):
    def test_each_function_has_its_arguments(self):
        for module, rows in INTERFACE.items():
            for name, arguments in rows.items():
                found = getattr(importlib.import_module("fewways." + module), name)
                self.assertTrue(inspect.isfunction(found), (module, name))
                self.assertEqual(list(inspect.signature(found).parameters), arguments, (module, name))
                for parameter in inspect.signature(found).parameters.values():
                    self.assertIs(parameter.default, inspect.Parameter.empty, (module, name))

    def test_the_desk(self):
        desk = importlib.import_module("fewways.desk")
        self.assertTrue(inspect.isclass(desk.Desk))
        self.assertEqual(list(inspect.signature(desk.Desk).parameters), [])
        self.assertEqual(list(inspect.signature(desk.Desk().say).parameters), ["row"])


if __name__ == "__main__":
    unittest.main()
