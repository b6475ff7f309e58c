"""The interface: its names stand in their files, its methods in their classes, its parameters have their names."""

import importlib
import inspect
import unittest

STATIC, CLASS, PROPERTY = "static ", "class ", "property "

OF_EACH_RULE = {"__call__": "rest", "wish": "rest", "list_for": "total", "walk": "total"}
JOINED = {"__and__": "other", "__or__": "other", "__eq__": "other", "__str__": ""}

INTERFACE = {
    "checks": {"is_integer": "value", "is_within": "value, least, most", "is_size": "value", "is_name": "value"},
    "words": {"number_of": "word, least, most"},
    "papers": {"Paper": {}, "Denial": {"__bool__": ""}},
    "ratios": {"Ratio": {
        "__init__": "over, under=1", STATIC + "of": "value", STATIC + "greatest": "values", CLASS + "read": "text",
        "__add__": "other", "__radd__": "other", "__sub__": "other", "__rsub__": "other", "__mul__": "other",
        "__rmul__": "other", "__neg__": "", "__floordiv__": "other", "__rfloordiv__": "other", "__mod__": "other",
        "__rmod__": "other", "__lt__": "other", "__le__": "other", "__gt__": "other", "__ge__": "other",
        "__eq__": "other", "__bool__": "", "__str__": "", "floor": "", "ceiling": ""}},
    "chunks": {"Chunks": {
        "__init__": "*sizes", STATIC + "of": "sizes", CLASS + "read": "text", STATIC + "even": "total, size",
        STATIC + "shared": "total, many", STATIC + "tapered": "total, first, last", "__len__": "", "__iter__": "",
        "__contains__": "x", "__getitem__": "at", "__add__": "other", "__mul__": "other", "__rmul__": "other",
        "__invert__": "", "__le__": "other", "__lt__": "other", "__and__": "other", "__or__": "other",
        "__eq__": "other", "__str__": "", "cut": "at", "place_of": "item"}},
    "crews": {"Crew": {
        "__init__": "**speeds", STATIC + "of": "speeds", CLASS + "read": "text", STATIC + "even": "many, speed=1",
        "__len__": "", "__iter__": "", "__contains__": "x", "__getitem__": "at", "__add__": "other", "__sub__": "other",
        "__mul__": "other", "__rmul__": "other", "__le__": "other", "__lt__": "other", "__eq__": "other", "__str__": "",
        "with_speed": "name, speed"}},
    "settings": {"Setting": {
        "__init__": "crew, least=1, most=1, fee=0", CLASS + "read": "text", "late_of": "rest, place, size",
        "let": "rest, place, limit", "straight": "", "with_crew": "crew", "with_costs": "least, most", "with_fee": "fee",
        "__le__": "other", "__lt__": "other", "__eq__": "other", "__str__": ""}},
    "worlds": {"World": {
        "__init__": "ready, costs, order", CLASS + "read": "text", PROPERTY + "ready": "", "__len__": "", "__iter__": "",
        "__contains__": "x", "__getitem__": "at", "with_ready": "worker, moment", "with_costs": "costs",
        "with_order": "order", "__add__": "other", "__eq__": "other", "__str__": ""}},
    "plays": {
        "Taking": {"__init__": "worker, at, begun, ended", "__eq__": "other"},
        "Play": {
            "__init__": "chunks, setting, world", PROPERTY + "free_at": "", "takings_of": "worker", "__len__": "",
            "__iter__": "", "__getitem__": "at", "__eq__": "other"},
        "takings": "chunks, setting, world", "offered": "crew, ready, moment", "perfect_end": "crew, ready, cost"},
    "late": {
        "lateness_at": "chunks, setting, at", "lateness": "chunks, setting", "all_latenesses": "chunks, setting",
        "world_at": "chunks, setting, at", "latest": "chunks, setting",
        "Latest": {"__init__": "late, at, world", "__eq__": "other"}},
    "look_late": {"shows_latest": "chunks, setting, value"},
    "fewest": {
        "fewest": "total, setting, limit", "Fewest": {"__init__": "chunks", "__eq__": "other"},
        "NoList": {"__init__": "rests", "__eq__": "other"}, "count_fewest": "total, setting, limit",
        "chunks_within": "total, setting, limit", "greatest_total": "count, setting, limit",
        "Greatest": {"__init__": "total, chunks", "__eq__": "other"}, "grid": "setting",
        "least_limit": "total, setting, most=5000", "Least": {"__init__": "limit, chunks, below", "__eq__": "other"},
        "staircase": "total, setting"},
    "look_fewest": {
        "shows_fewest": "total, setting, limit, paper", "shows_greatest": "count, setting, limit, paper",
        "shows_least": "total, setting, most, paper"},
    "rules": {
        "Rule": {STATIC + "read": "text", **OF_EACH_RULE},
        "Fixed": {"__init__": "size", **JOINED, **OF_EACH_RULE},
        "Divided": {"__init__": "x, y, w", STATIC + "up": "w", **JOINED, **OF_EACH_RULE},
        "Lesser": {"__init__": "one, other", **JOINED, **OF_EACH_RULE},
        "Greater": {"__init__": "one, other", **JOINED, **OF_EACH_RULE},
        "By": {"__init__": "function", **JOINED, **OF_EACH_RULE}},
    "residues": {"pieces": "rule"},
    "judged": {
        "within": "rule, setting, limit", "greatest_late": "rule, setting",
        "Bound": {"__init__": "late, rest", "__eq__": "other"}, "Endless": {"__init__": "residue, begin", "__eq__": "other"},
        "Within": {"__init__": "table", "__eq__": "other"}, "Beyond": {"__init__": "rest, late", "__eq__": "other"}},
    "look_judged": {
        "shows_bound": "rule, setting, value", "shows_endless": "rule, setting, value",
        "shows_within": "rule, setting, limit, value", "shows_beyond": "rule, setting, limit, value"},
    "compared": {
        "NeverLess": {"__init__": "begins", "__eq__": "other"}, "Steady": {"__init__": "begins", "__eq__": "other"},
        "Same": {"__init__": "first, last", "__eq__": "other"}, "Surely": {"__init__": "never, steady", "__eq__": "other"},
        "Less": {"__init__": "rest", "__eq__": "other"}, "Jump": {"__init__": "rest", "__eq__": "other"},
        "Other": {"__init__": "rest", "__eq__": "other"}, "Counter": {"__init__": "total, counts", "__eq__": "other"},
        "Undecided": {"__init__": "upto", "__eq__": "other"}, "never_less": "one, other", "steadiness": "rule",
        "alike": "one, other", "surely_fewer": "one, other, upto=1000"},
    "look_compared": {
        "shows_never_less": "one, other, value", "shows_steady": "rule, value", "shows_alike": "one, other, value",
        "shows_fewer": "one, other, value, upto=1000"},
    "batches": {
        "Batched": {
            "__init__": "many, over", CLASS + "read": "text", "batches": "total", "cut": "total", "__eq__": "other",
            "__str__": ""},
        "greatest_batched": "batched, setting", "BatchBound": {"__init__": "late, rest, spot", "__eq__": "other"},
        "BatchEndless": {"__init__": "spot, rise", "__eq__": "other"}},
    "look_batches": {"shows_batched": "batched, setting, value"},
    "loops": {
        "Loops": {
            "__init__": "*pairs", CLASS + "read": "text", "joined": "", "__getitem__": "at", "__contains__": "x",
            "__len__": "", "__iter__": "", "until": "name", "ordered": "*names", "__add__": "other", "__eq__": "other",
            "__str__": ""},
        "end_lateness": "loops, setting, name", "best_order": "loops, setting",
        "BestOrder": {"__init__": "names, late, last", "__eq__": "other"}},
    "look_loops": {"shows_best_order": "loops, setting, paper"},
    "logs": {
        "Log": {
            "__init__": "chunks, setting, takings", STATIC + "of": "play", "__getitem__": "at", "__len__": "",
            "__iter__": "", "__eq__": "other"},
        "fitting": "log", "Fits": {"__init__": "world", "__eq__": "other"},
        "Misfit": {"__init__": "at, why", "__eq__": "other"}, "Ring": {"__init__": "workers", "__eq__": "other"},
        "lateness_between": "log", "untold": "chunks, setting, times",
        "Came": {"__init__": "least, most", "__eq__": "other"}},
    "look_logs": {"shows_log": "log, paper"},
    "pool": {
        "PoolTaking": {"__init__": "loop, worker, many, begun, ended", "__eq__": "other"},
        "Pool": {
            "__init__": "setting, rule, work=None", PROPERTY + "now": "", PROPERTY + "waiting": "", PROPERTY + "here": "",
            PROPERTY + "log": "", PROPERTY + "rule": "", PROPERTY + "deeds": "", "__len__": "", "__iter__": "",
            "add": "name, items", "__getitem__": "at", "__setitem__": "at, worth", "__contains__": "x",
            "come": "worker, time", "run": "until", "busy_until": "worker", "end_of": "name", "set_rule": "rule",
            "ahead": "", "bound": "", "undo": "", "trial": "", "tried": "ask", "twin": "", "__eq__": "other"}},
    "cases": {"Case": {
        "__init__": "setting, chunks=None, cut_by=None, world=None", "__eq__": "other",
        "with_parts": "chunks=None, cut_by=None, world=None"}},
    "texts": {"case_text": "case", "log_text": "log", "paper_text": "paper"},
    "reading": {"read_case": "text", "read_log": "text, setting", "read_paper": "text"},
    "desk": {"Desk": {
        "__init__": "", "__call__": "line", "run": "*lines", "__len__": "", "changes": "", "__bool__": "", "trial": "",
        "tried": "work", CLASS + "read": "text"}},
}


class InterfaceTest(unittest.TestCase):
    def test_names_stand_in_their_files(self):
        for module, names in INTERFACE.items():
            for name, told in names.items():
                found = getattr(importlib.import_module("latechunks." + module), name)
                self.assertEqual(found.__module__, "latechunks." + module, name)
                if isinstance(told, str):
                    self.has_parameters(found, told)
                else:
                    self.assertTrue(inspect.isclass(found), name)
                    for method, parameters in told.items():
                        self.stands_in(found, method, parameters)

    def stands_in(self, found, method, parameters):
        kind, _, name = method.rpartition(" ")
        own = vars(found)[name]
        kinds = {"static": staticmethod, "class": classmethod, "property": property}
        if kind:
            self.assertIsInstance(own, kinds[kind], method)
        if kind != "property":
            self.has_parameters(getattr(found, name), parameters, 0 if kind else 1)

    def has_parameters(self, function, parameters, left_out=0):
        signature = inspect.signature(function)
        signature = signature.replace(parameters=list(signature.parameters.values())[left_out:])
        self.assertEqual(str(signature), f"({parameters})", function.__qualname__)
