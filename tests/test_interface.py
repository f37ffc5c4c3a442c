import importlib
import inspect
import unittest

INTERFACE = {
    "manydeep.webs": {
        "is_web": ["thing"], "is_growth": ["thing"], "is_book": ["thing"], "is_garden": ["thing"],
        "led": ["web", "renaming"], "renaming_between": ["one", "other"], "growth_renaming": ["one", "other"],
    },
    "manydeep.texts": {
        "web_text": ["web"], "garden_text": ["garden"], "read_web": ["text"], "read_garden": ["text"],
    },
}


class Interface(unittest.TestCase):
    def test_functions_stand_in_their_files_with_their_parameters(self):
        for file, functions in INTERFACE.items():
            module = importlib.import_module(file)
            for name, parameters in functions.items():
                function = getattr(module, name)
                self.assertEqual(function.__module__, file)
                self.assertEqual(list(inspect.signature(function).parameters), parameters)


if __name__ == "__main__":
    unittest.main()
