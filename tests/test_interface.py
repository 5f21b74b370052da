"""The interface: each name exists and is defined in the file, and each method in the class, where it is listed."""

import importlib
import unittest

FUNCTIONS = {
    "names": "is_name check_name check_number check_houses ordered top_level most_houses",
    "webtext": "write_web read_web fault_in",
    "plain": "find_parts find_part search_joined shortest_way distances is_way",
    "plaincuts": "crossing_lines is_cut spanning_lines is_forest is_spanning plain_bridges bridge_sides",
    "shapes": "is_balanced shape_keys shape_height least_seats height_bound",
}

CLASSES = {
    ("webs", "Web"): "houses lines ends lines_at with_house with_line without_line __eq__ __len__ __contains__ __iter__",
    ("yards", "Yard"): "make scrap row_numbers listed size weight height least_tie least_spare shape at stretch row_of"
                       " place_of put drop mark weigh cut splice cuts splices __len__ __contains__",
}


class InterfaceTest(unittest.TestCase):
    def defined(self, module, name):
        found = getattr(importlib.import_module("keptjoined." + module), name)
        self.assertEqual((found.__module__, found.__name__), ("keptjoined." + module, name))
        return found

    def test_functions(self):
        for module, listed in FUNCTIONS.items():
            for name in listed.split():
                self.assertTrue(callable(self.defined(module, name)))

    def test_classes(self):
        for (module, name), listed in CLASSES.items():
            found = self.defined(module, name)
            for member in listed.split():
                self.assertIn(member, vars(found))


if __name__ == "__main__":
    unittest.main()
