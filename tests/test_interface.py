import importlib
import inspect
import unittest

from manydeep.yards import Yard

INTERFACE = {
    "webs": {
        "is_web": "thing", "is_growth": "thing", "is_book": "thing", "is_garden": "thing", "led": "web renaming",
        "renaming_between": "one other", "growth_renaming": "one other",
    },
    "texts": {"web_text": "web", "garden_text": "garden", "read_web": "text", "read_garden": "text"},
    "rounds": {
        "one_round": "web book", "grown": "garden n", "joined_book": "one other", "book_power": "book n",
        "ties_after": "garden n", "places_after": "garden n", "ties_by": "garden n m", "places_by": "garden n m",
    },
    "addresses": {
        "is_row": "garden thing", "row_kind": "garden row", "row_ends": "garden row", "is_address": "garden thing",
        "degrees": "garden address n", "rows_at": "garden address n", "address_of": "garden n place",
        "place_of": "garden n address",
    },
    "wishes": {
        "is_wish": "thing", "does_hold": "web wish", "judge_plain": "web wish", "plain_holds": "web wish thing",
    },
    "marks": {"marks_row": "book wish n", "next_row": "book wish row", "holds_by": "start wish row"},
    "calendars": {
        "calendar": "garden wish", "holds_after": "garden wish n", "first_time": "garden wish",
        "judge_always": "garden wish", "always_holds": "garden wish thing", "judge_minds": "one other wish",
        "minds_hold": "one other wish thing", "judge_beneath": "one other wish", "beneath_holds": "one other wish thing",
    },
    "plans": {
        "judge_plan": "garden wish n", "plan_holds": "garden wish n thing", "unfolded": "garden wish n plan",
    },
    "hues": {
        "hue_number": "web", "hue_number_after": "garden n", "hue_calendar": "garden", "judge_enough": "garden k",
        "enough_holds": "garden k thing",
    },
    "numbers": {
        "is_count": "thing", "number_of": "web count", "number_by": "garden count n m", "number_marks": "book count n m",
        "judge_divided": "garden count m", "divided_holds": "garden count m thing",
    },
    "speeds": {"kinds_of": "garden", "leads": "book c d", "judge_speed": "garden", "speed_holds": "garden thing"},
    "distances": {
        "end_numbers": "book n", "distance_after": "garden p q n", "farthest_after": "garden p n", "judge_near": "garden p q n d",
        "near_holds": "garden p q n d thing", "distance_between": "garden n one other", "next_rows": "garden n one other",
    },
    "streams": {
        "stream_numbers": "book n", "stream_after": "garden p q n", "judge_stream": "garden p q n a",
        "stream_holds": "garden p q n a thing", "stream_between": "garden n one other", "apart_ways": "web p q",
        "are_apart_ways": "web p q thing",
    },
    "thick": {
        "is_thick": "growth", "is_even_ended": "growth", "eye_renaming": "one other", "is_row": "thing", "product": "row",
        "read_back": "growth", "judge_rows": "one other", "rows_hold": "one other thing",
    },
    "growthwords": {
        "are_equal_rows": "one other", "root_of": "row", "judge_exchange": "one other", "exchange_holds": "one other thing",
        "fitting_row": "one other",
    },
    "told": {
        "left": "shelf facts", "sure": "shelf facts wish n", "sure_calendar": "shelf facts wish",
        "keen": "shelf facts wishes most", "judge_lots": "shelf wishes", "lots_hold": "shelf wishes thing",
    },
    "yards": {"read_yard": "text"},
}
METHODS = {
    "__init__": "self garden", "garden": "self", "promises": "self", "deeds": "self", "judged": "self wish", "change": "self change",
    "deal": "self changes", "would": "self changes", "undo": "self", "redo": "self", "copied": "self", "__eq__": "self other",
    "__str__": "self",
}


class Interface(unittest.TestCase):
    def test_functions_stand_in_their_files_with_their_parameters(self):
        for file, functions in INTERFACE.items():
            module = importlib.import_module("manydeep." + file)
            for name, parameters in functions.items():
                function = getattr(module, name)
                self.assertEqual(function.__module__, "manydeep." + file)
                self.check_parameters(function, parameters)

    def check_parameters(self, function, parameters):
        found = inspect.signature(function).parameters.values()
        self.assertEqual(" ".join(parameter.name for parameter in found), parameters)
        for parameter in found:
            self.assertIs(parameter.kind, inspect.Parameter.POSITIONAL_OR_KEYWORD)
            self.assertIs(parameter.default, inspect.Parameter.empty)

    def test_methods_stand_in_their_class_with_their_parameters(self):
        self.assertEqual((Yard.__module__, Yard.__bases__), ("manydeep.yards", (object,)))
        for name, parameters in METHODS.items():
            self.assertIn(name, vars(Yard))
            self.check_parameters(vars(Yard)[name], parameters)


if __name__ == "__main__":
    unittest.main()
