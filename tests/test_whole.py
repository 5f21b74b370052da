"""What points 4 to 8 promise over the whole program, of all of its classes and functions at once."""

import copy
import random
import unittest

from keptjoined import bridges, certificates, combining, journals, log, plain, plaincuts, webtext, weights, worst
from keptjoined.book import Book
from keptjoined.forest import Forest
from keptjoined.history import History
from keptjoined.journals import Journal
from keptjoined.levels import Levels
from keptjoined.log import LoggedStore
from keptjoined.plainlevels import PlainLevels
from keptjoined.plainstore import PlainStore, ask_all, disagreement
from keptjoined.store import Store
from keptjoined.tables import is_table, is_within
from keptjoined.webs import Web
from keptjoined.weights import WeightForest
from tests.helpers import KeptTest, many_houses, many_lines, store_state
from tests.references import do, random_deeds

NAMES = ["p%d" % at for at in range(12)]
WITH_HOUSES = [Web, Forest, PlainLevels, Levels, Store, WeightForest, Journal, History, LoggedStore, PlainStore]
STORES = [Store, History, LoggedStore, PlainStore]


def with_lines(kind, houses, lines):
    """An object of any of the kinds with lines that are put one after another; journals and webs grow anew."""
    made = kind(houses)
    for row in lines:
        if kind is Web:
            made = made.with_line(*row)
        elif kind is Journal:
            made = made.with_deed(("put", *row))
        elif kind is WeightForest:
            made.put(*row, 5)
        else:
            made.put(*row)
    return made


def all_of(value):
    """All that a value holds, for comparing it with itself later on."""
    if isinstance(value, Web):
        return value.houses, value.lines
    if isinstance(value, Journal):
        return value.houses, value.deeds
    if isinstance(value, Store):
        return store_state(value), getattr(value, "undone", list)(), getattr(value, "log_text", str)()
    if isinstance(value, PlainStore):
        return value.houses, value.lines, value.parts()
    return copy.deepcopy(value)


def changed_inside(value):
    """Change all lists and dicts within a value that was returned."""
    if isinstance(value, (list, tuple)):
        for item in value:
            changed_inside(item)
    if isinstance(value, list):
        value.append("z")
        value[:1] = []
    elif isinstance(value, dict):
        value.clear()


class WholeTest(KeptTest):
    def cases(self):
        """A web with a journal and stores of all kinds that lead to it."""
        for seed in range(6):
            houses = many_houses(4 + seed)
            deeds = random_deeds(seed, houses, NAMES, 30)
            stores = [kind(houses) for kind in STORES]
            for store in stores:
                for deed in deeds:
                    do(store, deed)
            yield stores[0].web(), Journal(houses, deeds), stores

    def test_constructors(self):
        for kind in WITH_HOUSES:
            self.check_constructor(kind)
            for houses in [[], ["a"], many_houses(32)]:
                self.assertExactly(kind(houses).houses, houses)
            self.assertExactly(kind().houses, [])
            self.assertExactly(kind(houses=["b", "a"]).houses, ["a", "b"])

    def test_the_bound_on_lines(self):
        houses = many_houses(32)
        lines = many_lines(97, houses)
        for kind in WITH_HOUSES:
            if kind is not Forest:
                self.assertEqual(with_lines(kind, houses, lines[:96]).houses, houses)
                self.assertRefused("TooMany", [96], with_lines, kind, houses, lines)

    def test_equal_calls(self):
        """Objects of one class that went through the same calls return the same."""
        for seed in range(4):
            houses = many_houses(5 + seed)
            deeds = random_deeds(seed, houses, NAMES, 60)
            for kind in [Store, History, LoggedStore]:
                pair = [kind(houses), kind(houses[::-1])]
                for deed in deeds:
                    self.assertExactly(do(pair[0], deed), do(pair[1], deed))
                self.assertExactly(all_of(pair[0]), all_of(pair[1]))
            for kind in [PlainLevels, Levels]:
                pair = [kind(houses), kind(houses)]
                for deed in deeds:
                    self.assertExactly(do(pair[0], deed), do(pair[1], deed))
                self.assertExactly(pair[0].table(), pair[1].table())

    def test_webs_that_are_passed_stay(self):
        for web, journal, _ in self.cases():
            a, b, line = web.houses[0], web.houses[-1], web.lines[0][0]
            low, high = web.ends(line)
            other = combining.renamed(web, houses={house: house + "x" for house in web.houses},
                                      lines={row[0]: row[0] + "x" for row in web.lines})
            weight = {row[0]: 3 for row in web.lines}
            before = all_of(web), all_of(other)
            for call, given in [
                    (plain.find_parts, (web,)), (plain.find_part, (web, a)), (plain.search_joined, (web, a, b)),
                    (plain.shortest_way, (web, a, b)), (plain.distances, (web, a)), (plain.is_way, (web, a, b, [])),
                    (plaincuts.crossing_lines, (web, [a])), (plaincuts.is_cut, (web, a, b, [a])), (plaincuts.spanning_lines, (web,)),
                    (plaincuts.is_forest, (web, [line])), (plaincuts.is_spanning, (web, [line])), (plaincuts.plain_bridges, (web,)),
                    (plaincuts.bridge_sides, (web, line)), (webtext.write_web, (web,)), (bridges.find_bridges, (web,)),
                    (bridges.blocks, (web,)), (bridges.shrunk, (web,)), (bridges.bridge_certificate, (web, line)),
                    (bridges.two_ways, (web, a, b)), (bridges.two_ways, (web, low, high)), (bridges.least_joins, (web,)),
                    (bridges.is_joins, (web, [(a, b)])), (certificates.shortest_certificate, (web, a, b)),
                    (weights.plain_lightest, (web, weight)), (weights.is_lightest, (web, weight, [line])),
                    (journals.web_difference, (web, web)), (Journal.from_web, (web,)), (combining.side_by_side, (web, other)),
                    (combining.renamed, (web,)), (combining.let_in, (web, a, other, other.houses[0])), (web.ends, (line,)),
                    (web.with_house, ("new",)), (web.with_line, ("new", a, b)), (web.without_line, (line,)),
                    (worst.worst_row, (Web(web.houses, web.lines[:12]), [(line, low, high)], 3))]:
                changed_inside(call(*given))
                self.assertExactly((all_of(web), all_of(other)), before)
            self.assertExactly(weight, {row[0]: 3 for row in web.lines})

    def test_journals_that_are_passed_stay(self):
        for web, journal, _ in self.cases():
            a, b = web.houses[:2]
            before = all_of(journal)
            for call, given in [
                    (journals.replay, (journal,)), (journals.lifetimes, (journal,)), (journals.joined_spans, (journal, a, b)),
                    (journals.ledger, (journal,)), (journals.final_levels, (journal,)), (log.write_log, (journal,)),
                    (combining.weave, (journal, Journal(["x"]), [1, 2])), (journal.settled, ()), (journal.inverse, ()),
                    (journal.with_deed, (("put", "new", a, b),)), (journal.web_at, ()), (journal.prefix, (1,))]:
                first = call(*given)
                if isinstance(first, Store):
                    first.put("new", a, b)
                changed_inside(first)
                self.assertExactly(all_of(journal), before)
            store = journals.replay(journal)
            store.put("new", a, b)
            self.assertTrue(journals.replay(journal).web() == web)

    def test_stores_that_are_passed_stay(self):
        for web, _, stores in self.cases():
            a, b = web.houses[0], web.houses[-1]
            questions = [("joined", a, b), ("way", a, b), ("part", a), ("size", a), ("name", b), ("parts",), ("count",)]
            for store in stores:
                before = all_of(store)
                found = [ask_all(store, questions)]
                self.assertIs(disagreement(store, stores[0], questions), None)
                if isinstance(store, Store):
                    found += [certificates.answer(store, a, b), certificates.parts_certificate(store), store.counts(), store.table()]
                    self.assertTrue(certificates.is_answer(web, a, b, certificates.answer(store, a, b)))
                    self.assertTrue(certificates.is_parts_certificate(web, certificates.parts_certificate(store)))
                    self.assertExactly(bridges.store_bridges(store), plaincuts.plain_bridges(web))
                    self.assertTrue(is_table(store.houses, store.table()) and is_within(len(store.houses), store.counts()))
                changed_inside(found)
                self.assertExactly(all_of(store), before)

    def test_a_web_that_was_returned_stays(self):
        for web, _, stores in self.cases():
            for store in stores:
                found = store.web()
                store.take(store.lines[0][0])
                store.put("new", *web.houses[:2])
                self.assertTrue(found == web)

    def test_twins(self):
        source = random.Random(7)
        for seed in range(4):
            houses = many_houses(4 + seed)
            deeds = random_deeds(seed, houses, NAMES, 40)
            for kind, see in [(PlainLevels, lambda one: one.table()), (History, lambda one: (all_of(one), one.journal().deeds))]:
                one = kind(houses)
                for deed in deeds[:30]:
                    do(one, deed)
                twin = one.twin()
                pair = [one, twin]
                source.shuffle(pair)
                before = see(pair[1])
                for deed in deeds[30:]:
                    do(pair[0], deed)
                self.assertExactly(see(pair[1]), before)
                for deed in deeds[30:]:
                    do(pair[1], deed)
                self.assertExactly(pair[1].lines, pair[0].lines)

    def test_a_book_keeps_no_row_list(self):
        rows = ["store s a b", "put s p a b"]
        book = Book()
        book.run_all(rows)
        rows.clear()
        self.assertEqual([row for row, _ in book], ["store s a b", "put s p a b"])


if __name__ == "__main__":
    unittest.main()
