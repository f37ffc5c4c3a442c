import importlib
import inspect
import unittest

INTERFACE = {
    "webs": {
        "is_web": "thing", "is_growth": "thing", "is_book": "thing", "is_garden": "thing", "led": "web renaming",
        "renaming_between": "one other", "growth_renaming": "one other",
    },
    "texts": {"web_text": "web", "garden_text": "garden", "read_web": "text", "read_garden": "text"},
    "rounds": {
        "one_round": "web book", "grown": "garden n", "joined_book": "one other", "book_power": "book n",
        "ties_after": "garden n", "places_after": "garden n", "ties_by": "garden n m", "places_by": "garden n m",
    },
    "addresses": {
        "is_row": "garden thing", "row_kind": "garden row", "row_ends": "garden row", "is_address": "garden thing",
        "degrees": "garden address n", "rows_at": "garden address n", "address_of": "garden n place",
        "place_of": "garden n address",
    },
    "wishes": {
        "is_wish": "thing", "does_hold": "web wish", "judge_plain": "web wish", "plain_holds": "web wish thing",
    },
    "marks": {"marks_row": "book wish n", "next_row": "book wish row", "holds_by": "start wish row"},
    "calendars": {
        "calendar": "garden wish", "holds_after": "garden wish n", "first_time": "garden wish",
        "judge_always": "garden wish", "always_holds": "garden wish thing", "judge_minds": "one other wish",
        "minds_hold": "one other wish thing", "judge_beneath": "one other wish", "beneath_holds": "one other wish thing",
    },
    "plans": {
        "judge_plan": "garden wish n", "plan_holds": "garden wish n thing", "unfolded": "garden wish n plan",
    },
    "hues": {
        "hue_number": "web", "hue_number_after": "garden n", "hue_calendar": "garden", "judge_enough": "garden k",
        "enough_holds": "garden k thing",
    },
}


class Interface(unittest.TestCase):
    def test_functions_stand_in_their_files_with_their_parameters(self):
        for file, functions in INTERFACE.items():
            module = importlib.import_module("manydeep." + file)
            for name, parameters in functions.items():
                function = getattr(module, name)
                self.assertEqual(function.__module__, "manydeep." + file)
                found = inspect.signature(function).parameters.values()
                self.assertEqual(" ".join(parameter.name for parameter in found), parameters)
                for parameter in found:
                    self.assertIs(parameter.kind, inspect.Parameter.POSITIONAL_OR_KEYWORD)
                    self.assertIs(parameter.default, inspect.Parameter.empty)


if __name__ == "__main__":
    unittest.main()
