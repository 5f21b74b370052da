"""The interface: each name exists and is defined in the file, and each method in the class, where it is listed."""

import importlib
import unittest

FUNCTIONS = {
    "names": "is_name check_name check_number check_houses ordered top_level most_houses",
    "webtext": "write_web read_web fault_in",
    "plain": "find_parts find_part search_joined shortest_way distances is_way",
    "plaincuts": "crossing_lines is_cut spanning_lines is_forest is_spanning plain_bridges bridge_sides",
    "shapes": "is_balanced shape_keys shape_height least_seats height_bound",
    "plaintours": "is_tour turned linked parted tour_houses tour_lines",
    "tours": "house_seat arc_seat plant turn tie_up untie start_house",
    "tables": "first_break is_table rise_bound step_bound is_within",
    "certificates": "answer is_answer parts_certificate is_parts_certificate shortest_certificate is_shortest_certificate",
    "bridges": "find_bridges store_bridges blocks shrunk bridge_certificate is_bridge_certificate two_ways is_two_ways"
               " least_joins is_joins",
    "weights": "plain_lightest is_lightest",
    "journals": "replay first_bad lifetimes joined_spans ledger final_levels web_difference",
    "log": "record_sum write_log mend compact_log recover record_count new_disk apply_write crash_after disk_log"
           " deed_writes compact_writes",
    "plainstore": "ask ask_all disagreement",
    "combining": "side_by_side renamed let_in weave",
    "worst": "rises_of worst_row is_worst",
    "script": "read_command write_command write_book read_book",
    "book": "audit compare_books",
}

CLASSES = {
    ("webs", "Web"): "houses lines ends lines_at with_house with_line without_line __eq__ __len__ __contains__ __iter__",
    ("yards", "Yard"): "make scrap row_numbers listed size weight height least_tie least_spare shape at stretch row_of"
                       " place_of put drop mark weigh cut splice cuts splices __len__ __contains__",
    ("forest", "Forest"): "houses lines steps __len__ __contains__ link cut mark_tie mark_spare same piece_of size_of"
                          " pieces least_tie least_spare way tour_of heights",
    ("plainlevels", "PlainLevels"): "houses lines top put take level_of table piece_of pieces twin",
    ("levels", "Levels"): "houses lines top put take level_of table piece_of pieces web way tours heights counts",
    ("store", "Store"): "houses lines top __len__ __contains__ put take web joined way part_of size_of part_name parts"
                        " part_count ties spares trace level_of table piece_of pieces tours heights counts",
    ("weights", "WeightForest"): "houses lines __len__ __contains__ put kept outs weight_of weights weight_sum web heaviest"
                                 " ring_of",
    ("journals", "Journal"): "houses deeds __eq__ __len__ __iter__ web_at prefix with_deed settled inverse from_web",
    ("history", "History"): "MOST_VERSIONS put take undo redo undone journal versions name_version version back_to compare"
                            " twin",
    ("log", "LoggedStore"): "put take log_text compact after_crash",
    ("plainstore", "PlainStore"): "houses lines __len__ __contains__ put take web joined way part_of size_of part_name parts"
                                  " part_count",
    ("book", "Book"): "MOST_ENTRIES MOST_STORES __call__ run_all entries stores __len__ __iter__ twin",
}


class InterfaceTest(unittest.TestCase):
    def defined(self, module, name):
        found = getattr(importlib.import_module("keptjoined." + module), name)
        self.assertEqual((found.__module__, found.__name__), ("keptjoined." + module, name))
        return found

    def test_functions(self):
        for module, listed in FUNCTIONS.items():
            for name in listed.split():
                self.assertTrue(callable(self.defined(module, name)))

    def test_classes(self):
        for (module, name), listed in CLASSES.items():
            found = self.defined(module, name)
            for member in listed.split():
                self.assertIn(member, vars(found))


if __name__ == "__main__":
    unittest.main()
