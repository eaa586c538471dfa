"""Every name of the interface stands in its file, with its parameters."""

import ast
import importlib
import inspect
import os
import unittest

FOLDER = os.path.join(os.path.dirname(os.path.dirname(os.path.abspath(__file__))), "unsewn")

FUNCTIONS = {
    "kinds": {
        "is_integer": "thing", "is_number": "thing", "is_quotient": "thing", "is_heap": "thing", "is_book": "thing",
        "is_word": "heap thing", "is_leaf": "heap thing", "is_lot": "heap thing", "is_three": "heap thing",
        "is_order": "many thing",
    },
    "quotients": {
        "quotient": "top bottom", "plus": "one other", "minus": "one other", "times": "one other", "over": "one other",
        "is_less": "one other", "total": "quotients",
    },
    "determinants": {"determinant": "rows", "walk_rows": "book ground"},
    "tables": {"table_of": "book ground", "column_of": "book ground word"},
    "looks": {"look_shares": "book", "best_look": "book"},
    "findkinds": {"is_find": "book thing", "are_finds": "book thing"},
    "walks": {"walk_of": "book ground", "walk_back": "book ground"},
    "shares": {
        "order_share": "book three", "before_share": "book cover one other", "before_rows": "book cover",
    },
    "nexts": {"next_share": "book find", "next_rows": "book"},
    "places": {"mean_place": "book cover leaf", "mean_places": "book cover"},
    "bestrows": {"is_row": "book cover thing", "best_row": "book cover", "row_cost": "book cover row"},
    "chordtables": {
        "is_chords": "thing", "rank_on": "table lot", "is_free": "table lot", "pivoted": "table one other",
        "free_lots": "table",
    },
    "sides": {"sides_of": "table", "odd_round": "table"},
    "heapcounts": {
        "fan_of": "heap word", "ends_of": "heap word", "surplus_of": "heap word", "loops_of": "heap",
        "from_word": "heap word", "to_word": "heap word", "like_leaves": "heap leaf", "like_sets": "heap",
    },
    "heaplots": {
        "gates_of": "heap lot", "within": "heap lot", "leaving": "heap lot", "entering": "heap lot",
        "hangs_together": "heap lot", "pieces_of": "heap",
    },
    "readings": {"is_reading": "book thing", "started_at": "book reading first", "readings_of": "book first"},
    "exits": {"exits_of": "book reading", "is_exits": "book first thing", "reading_by": "book first exits"},
    "counts": {"tree_count": "book word", "reading_count": "book"},
    "orders": {
        "in_order": "book reading three", "order_count": "book three", "order_readings": "book three",
        "order_at": "book three index", "order_number": "book three reading",
    },
    "surely": {
        "is_sure": "book three", "sure_ring": "book leaves", "sure_before": "book cover one other",
        "sure_pairs": "book cover", "open_pairs": "book cover", "open_readings": "book cover one other",
    },
    "cutting": {"cut_book": "book three"},
    "shrinking": {"may_shrink": "book three lot", "shrunk": "book three"},
    "maps": {"map_of": "book three"},
    "mapchecker": {"lets_map": "book three thing"},
    "mapkinds": {"is_map": "book three thing"},
    "maptexts": {"map_lines": "chart"},
    "lands": {"lands_of": "book three chart", "mirrored": "chart"},
    "heapchecker": {"fault_of": "heap", "lets_book": "thing"},
    "mending": {"mend_count": "heap", "mend_leaves": "heap"},
    "sharepapers": {"share_paper": "book three"},
    "slips": {"is_slip": "thing", "heap_of": "slips", "slips_of": "names heap"},
    "sliptexts": {"slip_lines": "slips"},
    "turns": {"backwards": "heap", "renamed": "heap order", "dealt": "heap order"},
    "makings": {
        "hung": "heap word", "parted": "heap leaf", "joined": "heap other", "home_of": "heap lot",
        "put_together": "heap lot",
    },
    "halving": {"halves_of": "book lot"},
    "booktexts": {"book_line": "heap"},
    "bookreadings": {"read_book": "line"},
    "pairings": {
        "is_pairing": "book thing", "rolls_of": "book pairing", "pairing_of": "book reading",
        "reading_from": "book pairing first", "all_pairings": "book", "roll_table": "book",
    },
    "trees": {"is_tree": "book word thing", "trees_of": "book word", "tree_of": "book reading"},
    "glueing": {"glued": "book find", "glued_all": "book finds", "count_with": "book finds"},
    "numbering": {"reading_at": "book first index", "number_of": "book reading"},
    "exchanges": {
        "is_step": "book reading thing", "exchanged": "book reading step", "steps_between": "book one other",
    },
    "stepchecker": {"lets_steps": "book one other thing"},
    "columnchecker": {"lets_column": "book ground word thing"},
    "tablechecker": {"lets_table": "book ground thing"},
    "grounds": {"is_table": "thing", "regrounded": "table word", "turned_over": "table"},
    "changes": {"table_parted": "book ground leaf", "table_glued": "book ground find"},
    "tabletexts": {"table_lines": "table"},
    "tablereadings": {"read_table": "lines"},
    "sharechecker": {"lets_share": "book three thing"},
    "oneword": {
        "last_share": "book cover leaf", "turn_share": "book cover leaf index", "queue_share": "book cover leaves",
    },
    "rollcounts": {"two_rolls": "book one other", "three_rolls": "book three", "with_apart": "book three"},
    "volumes": {"volume_count": "heap ends"},
    "fours": {"four_gap": "book four"},
    "laps": {"laps_mean": "book leaves", "distance_mean": "book one other"},
    "findcounts": {
        "order_count_with": "book finds three", "count_barring": "book finds barred",
        "order_count_barring": "book finds barred three",
    },
    "ways": {"are_ways": "book three thing", "ways_of": "book three", "spliced": "book three ways"},
    "wayschecker": {"lets_ways": "book three thing"},
    "layers": {"layers_of": "book cover", "near_pairs": "book cover", "room_of": "book cover leaf"},
    "tips": {"firsts_of": "book cover", "lasts_of": "book cover"},
    "crossings": {"are_twofold": "book", "crossings": "book reading", "types_of": "book reading three"},
    "exchanging": {"rolls_after": "book reading lot", "reading_after": "book reading lot"},
    "mapreadings": {"read_map": "lines"},
    "slipreadings": {"read_slips": "lines"},
    "windows": {
        "windows_of": "text width", "text_book": "text width", "spelled": "grams text", "counts_of": "text width",
        "alike_texts": "one other width",
    },
    "texts": {
        "text_of": "book reading", "is_text": "book cover thing", "readings_per_text": "book cover", "text_count": "book cover",
        "texts_of": "book cover",
    },
    "textnumbers": {"text_at": "book cover index", "number_of_text": "book cover text"},
    "pairmeans": {"pair_mean": "book cover one other"},
    "missing": {"missing_leaf": "heap"},
    "mendchecker": {"lets_mend": "heap thing"},
    "aftermaps": {"three_after": "book three find", "map_after": "book three chart find"},
    "liveevents": {"is_event": "thing", "is_log": "thing"},
    "eventtexts": {"event_line": "event", "log_lines": "log"},
    "eventreadings": {"read_event": "line", "read_log": "lines"},
    "replaying": {"replayed": "book cover log"},
}

CLASSES = {
    "shareclasses": {
        "Shares": {
            "__init__": "self book cover", "before": "self one other", "mean": "self leaf", "follows": "self find",
            "ranked": "self", "look": "self",
        },
    },
    "bookclasses": {
        "Book": {
            "__init__": "self heap", "plain": "self", "many": "self", "text": "self", "fan": "self word",
            "backwards": "self", "hung": "self word", "parted": "self leaf", "__eq__": "self other",
        },
    },
    "mapclasses": {
        "Map": {"__init__": "self book three", "lots": "self", "rounds": "self", "lands": "self", "lines": "self"},
    },
    "readingclasses": {
        "Reading": {
            "__init__": "self book leaves", "leaves": "self", "from_leaf": "self first", "index_of": "self leaf",
            "next_of": "self leaf", "exits": "self", "has": "self find", "__eq__": "self other",
        },
    },
    "tableclasses": {
        "Table": {
            "__init__": "self book ground", "entry": "self x y", "column": "self word", "lines": "self",
            "moved": "self word", "behind": "self find", "__eq__": "self other",
        },
    },
    "sureclasses": {
        "Sure": {
            "__init__": "self book cover", "pairs": "self", "layers": "self", "room": "self leaf", "is_before": "self one other",
        },
    },
    "carrierclasses": {
        "Concordance": {
            "__init__": "self text width", "many": "self", "counts": "self", "kth": "self index", "number": "self text",
            "__eq__": "self other",
        },
    },
    "live": {
        "LiveHeap": {
            "__init__": "self book cover", "do": "self event", "do_all": "self events * keep=False", "undo": "self steps=1",
            "count_behind": "self events", "log": "self", "found": "self", "barred": "self", "held": "self", "states": "self",
            "glued_now": "self", "map_now": "self three", "count_now": "self", "share_now": "self three",
            "before_now": "self one other", "place_now": "self leaf", "next_now": "self find", "look_now": "self",
            "__eq__": "self other",
        },
    },
    "desk": {
        "Desk": {
            "__init__": "self book cover", "ask": "self line", "ask_all": "self lines", "log": "self", "__eq__": "self other",
            "__iter__": "self",
        },
    },
    "errors": {
        "InvalidPaper": {"__init__": "self word at"}, "NotUsable": {"__init__": "self word at"},
        "Unsound": {"__init__": "self reason"}, "Torn": {"__init__": "self finds"},
        "InvalidEvent": {"__init__": "self event reason"}, "NothingToUndo": {"__init__": "self steps"},
        "InvalidText": {"__init__": "self line field"}, "InvalidRow": {"__init__": "self row"},
        "UnsewnError": {}, "PaperError": {}, "BookError": {}, "LiveError": {}, "TextError": {},
    },
}

GENERATORS = ("readings_of", "order_readings", "all_pairings", "trees_of", "texts_of")


def defined_in(module):
    with open(os.path.join(FOLDER, module + ".py"), encoding="utf-8") as file:
        tree = ast.parse(file.read())
    return {node.name for node in tree.body if isinstance(node, (ast.FunctionDef, ast.ClassDef))}


class TestInterface(unittest.TestCase):
    def check_parameters(self, function, told):
        self.assertEqual(str(inspect.signature(function)), "(" + ", ".join(told.split()) + ")")

    def test_functions(self):
        for module, rows in FUNCTIONS.items():
            told = importlib.import_module("unsewn." + module)
            for name, parameters in rows.items():
                self.assertIn(name, defined_in(module))
                self.check_parameters(getattr(told, name), parameters)

    def test_classes(self):
        for module, rows in CLASSES.items():
            told = importlib.import_module("unsewn." + module)
            for name, methods in rows.items():
                self.assertIn(name, defined_in(module))
                for method, parameters in methods.items():
                    self.assertIn(method, vars(getattr(told, name)))
                    self.check_parameters(vars(getattr(told, name))[method], parameters)

    def test_generators(self):
        for module, rows in FUNCTIONS.items():
            told = importlib.import_module("unsewn." + module)
            for name in rows:
                self.assertEqual(inspect.isgeneratorfunction(getattr(told, name)), name in GENERATORS)
