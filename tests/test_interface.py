"""The interface: each name exists and is defined in the file, and each method in the class, where it is listed."""

import importlib
import inspect
import unittest

FUNCTIONS = {
    "names": "is_name check_name check_number check_houses ordered top_level most_houses",
    "webtext": "write_web read_web fault_in",
    "plain": "find_parts find_part search_joined shortest_way distances is_way",
    "plaincuts": "crossing_lines is_cut spanning_lines is_forest is_spanning plain_bridges bridge_sides",
    "shapes": "is_balanced shape_keys shape_height least_seats height_bound",
    "plaintours": "is_tour turned linked parted tour_houses tour_lines",
    "tours": "house_seat arc_seat plant turn tie_up untie start_house",
    "tables": "first_break is_table rise_bound step_bound is_within",
    "certificates": "answer is_answer parts_certificate is_parts_certificate shortest_certificate is_shortest_certificate",
    "bridges": "find_bridges store_bridges blocks shrunk bridge_certificate is_bridge_certificate two_ways is_two_ways"
               " least_joins is_joins",
    "weights": "plain_lightest is_lightest",
    "journals": "replay first_bad lifetimes joined_spans ledger final_levels web_difference",
    "log": "record_sum write_log mend compact_log recover record_count new_disk apply_write crash_after disk_log"
           " deed_writes compact_writes",
    "plainstore": "ask ask_all disagreement",
    "combining": "side_by_side renamed let_in weave",
    "worst": "rises_of worst_row is_worst",
    "script": "read_command write_command write_book read_book",
    "book": "audit compare_books",
}

CLASSES = {
    ("webs", "Web"): "houses lines ends lines_at with_house with_line without_line __eq__ __len__ __contains__ __iter__",
    ("yards", "Yard"): "make scrap row_numbers listed size weight height least_tie least_spare shape at stretch row_of"
                       " place_of put drop mark weigh cut splice cuts splices __len__ __contains__",
    ("forest", "Forest"): "houses lines steps __len__ __contains__ link cut mark_tie mark_spare same piece_of size_of"
                          " pieces least_tie least_spare way tour_of heights",
    ("plainlevels", "PlainLevels"): "houses lines top put take level_of table piece_of pieces twin",
    ("levels", "Levels"): "houses lines top put take level_of table piece_of pieces web way tours heights counts",
    ("store", "Store"): "houses lines top __len__ __contains__ put take web joined way part_of size_of part_name parts"
                        " part_count ties spares trace level_of table piece_of pieces tours heights counts",
    ("weights", "WeightForest"): "houses lines __len__ __contains__ put kept outs weight_of weights weight_sum web heaviest"
                                 " ring_of",
    ("journals", "Journal"): "houses deeds __eq__ __len__ __iter__ web_at prefix with_deed settled inverse from_web",
    ("history", "History"): "MOST_VERSIONS put take undo redo undone journal versions name_version version back_to compare"
                            " twin",
    ("log", "LoggedStore"): "put take log_text compact after_crash",
    ("plainstore", "PlainStore"): "houses lines __len__ __contains__ put take web joined way part_of size_of part_name parts"
                                  " part_count",
    ("book", "Book"): "MOST_ENTRIES MOST_STORES __call__ run_all entries stores __len__ __iter__ twin",
}

# Each function, constructor and method with its parameters, as the interface shows them.
SIGNATURES = {
    "names": "is_name(word); check_name(word); check_number(number, least, most); check_houses(houses); ordered(a,"
        " b); top_level(count); most_houses(count, level)",
    "webs.Web": "Web(houses=(), lines=()); ends(line); lines_at(house); with_house(house); with_line(line, a, b);"
        " without_line(line)",
    "webtext": "write_web(web); read_web(text); fault_in(text)",
    "plain": "find_parts(web); find_part(web, house, *, without=None); search_joined(web, a, b, *, without=None);"
        " shortest_way(web, a, b, *, without=None); distances(web, house, *, without=None); is_way(web, a, b,"
        " way)",
    "plaincuts": "crossing_lines(web, side); is_cut(web, a, b, side); spanning_lines(web); is_forest(web, names);"
        " is_spanning(web, names); plain_bridges(web); bridge_sides(web, line)",
    "shapes": "is_balanced(shape); shape_keys(shape); shape_height(shape); least_seats(height); height_bound(size)",
    "yards.Yard": "Yard(); make(seats=()); scrap(row); row_numbers(); listed(row); size(row); weight(row); height(row);"
        " least_tie(row); least_spare(row); shape(row); at(row, place); stretch(row, start, stop);"
        " row_of(key); place_of(key); put(row, place, seat); drop(row, place); mark(key, *, tie=None,"
        " spare=None); weigh(key, weight); cut(row, place); splice(left, right)",
    "plaintours": "is_tour(keys); turned(keys, house); linked(first, second, line, a, b); parted(keys, line);"
        " tour_houses(keys); tour_lines(keys)",
    "tours": "house_seat(house); arc_seat(line, start, stop); plant(yard, house); turn(yard, house); tie_up(yard,"
        " line, a, b); untie(yard, line, a, b); start_house(yard, row)",
    "forest.Forest": "Forest(houses=()); link(line, a, b); cut(line); mark_tie(line, marked); mark_spare(house, line);"
        " same(a, b); piece_of(house); size_of(house); pieces(); least_tie(house); least_spare(house); way(a,"
        " b); tour_of(house); heights()",
    "plainlevels.PlainLevels": "PlainLevels(houses=()); put(line, a, b); take(line); level_of(line); table(); piece_of(level,"
        " house); pieces(level); twin()",
    "levels.Levels": "Levels(houses=()); put(line, a, b); take(line); level_of(line); table(); piece_of(level, house);"
        " pieces(level); web(); way(a, b); tours(level); heights(level); counts()",
    "store.Store": "Store(houses=()); put(line, a, b); take(line); web(); joined(a, b); way(a, b); part_of(house);"
        " size_of(house); part_name(house); parts(); part_count(); ties(); spares(); trace(); level_of(line);"
        " table(); piece_of(level, house); pieces(level); tours(level); heights(level); counts()",
    "tables": "first_break(houses, table); is_table(houses, table); rise_bound(count, puts); step_bound(count,"
        " puts, takes, rises); is_within(count, counts)",
    "certificates": "answer(store, a, b); is_answer(web, a, b, certificate); parts_certificate(store);"
        " is_parts_certificate(web, certificate); shortest_certificate(web, a, b);"
        " is_shortest_certificate(web, a, b, certificate)",
    "bridges": "find_bridges(web); store_bridges(store); blocks(web); shrunk(web); bridge_certificate(web, line);"
        " is_bridge_certificate(web, line, certificate); two_ways(web, a, b); is_two_ways(web, a, b,"
        " certificate); least_joins(web); is_joins(web, joins)",
    "weights.WeightForest": "WeightForest(houses=()); put(line, a, b, weight); kept(); outs(); weight_of(line); weights();"
        " weight_sum(); web(); heaviest(a, b); ring_of(line)",
    "weights": "plain_lightest(web, weights); is_lightest(web, weights, names)",
    "journals.Journal": "Journal(houses=(), deeds=()); web_at(count=None); prefix(count); with_deed(deed); settled();"
        " inverse(); from_web(web)",
    "journals": "replay(journal); first_bad(houses, deeds); lifetimes(journal); joined_spans(journal, a, b);"
        " ledger(journal); final_levels(journal); web_difference(first, second)",
    "history.History": "History(houses=()); put(line, a, b); take(line); undo(count=1); redo(count=1); undone(); journal(); name_version(name);"
        " version(name); back_to(name); compare(first, second=None); twin()",
    "log": "record_sum(text); write_log(journal); mend(text); compact_log(text); recover(text);"
        " record_count(text); new_disk(houses=()); apply_write(disk, write); crash_after(disk, writes, count);"
        " disk_log(disk); deed_writes(disk, deed); compact_writes(disk)",
    "log.LoggedStore": "LoggedStore(houses=()); put(line, a, b); take(line); log_text(); compact(); after_crash(text)",
    "plainstore.PlainStore": "PlainStore(houses=()); put(line, a, b); take(line); web(); joined(a, b); way(a, b);"
        " part_of(house); size_of(house); part_name(house); parts(); part_count()",
    "plainstore": "ask(store, question); ask_all(store, questions); disagreement(first, second, questions)",
    "combining": "side_by_side(first, second); renamed(web, *, houses=None, lines=None); let_in(outer, house, inner,"
        " door); weave(first, second, turns=())",
    "worst": "rises_of(web, menu, names); worst_row(web, menu, count); is_worst(web, menu, count, found)",
    "script": "read_command(row); write_command(command); write_book(entries); read_book(text)",
    "book.Book": "Book(); run_all(rows); twin()",
    "book": "audit(entries); compare_books(first, second)",
}


class InterfaceTest(unittest.TestCase):
    def defined(self, module, name):
        found = getattr(importlib.import_module("keptjoined." + module), name)
        self.assertEqual((found.__module__, found.__name__), ("keptjoined." + module, name))
        return found

    def test_functions(self):
        for module, listed in FUNCTIONS.items():
            for name in listed.split():
                self.assertTrue(callable(self.defined(module, name)))

    def test_classes(self):
        for (module, name), listed in CLASSES.items():
            found = self.defined(module, name)
            for member in listed.split():
                self.assertIn(member, vars(found))

    def test_signatures(self):
        for place, listed in SIGNATURES.items():
            module, _, kind = place.partition(".")
            owner = importlib.import_module("keptjoined." + module)
            for entry in listed.split("; "):
                name, given = entry.split("(", 1)
                if name == kind:
                    found = inspect.signature(getattr(owner, kind))
                else:
                    # An object binds the parameter by which a method knows it; a class method is bound to its class.
                    found = inspect.signature(getattr(getattr(owner, kind) if kind else owner, name))
                    first = list(found.parameters)[:1]
                    if first == ["self"]:
                        found = found.replace(parameters=list(found.parameters.values())[1:])
                self.assertEqual(str(found), "(" + given, f"{place}: {name}")


if __name__ == "__main__":
    unittest.main()
