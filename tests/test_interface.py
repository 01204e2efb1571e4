"""The interface of the document: what is defined where, and which arguments it takes."""

import importlib
import inspect
import unittest

FUNCTIONS = {
    "words": "is_name(value) is_row(value) is_made_row(value) is_end(value) reads(row) sets(row)",
    "ways": "check_way(source,way) ways_to(source,block,most) shortest(source,block)",
    "terms": "worth(term,inputs,meaning)",
    "players": "played(made,way,values,meaning)",
    "shapes": "marks_of(made)",
    "leads": "behind(shape,row) behind_made(shape,row) led(shape,made,block) led_to(shape,made,stop)",
    "standing": "always(standing,stop,one,other) unlike_way(standing,stop,one,other)",
    "verdicts": "mark_of(entry) verdict(table,stop,name) all_words(table) is_truthful(table) least_way(table,stop,name) "
                "kind_on(table,stop,name,way) kinds_up_to(table,stop,name,most) wrong_return(made)",
    "papers": "paper(table,stop,name) table_paper(table) return_paper(made)",
    "checker": "lets(table,stop,name,value) lets_table(table,value) lets_returns(made,value)",
    "telling": "tellings(made) is_asked(made,stop) told_by(made,stop,name) can_be_told(made,stop,name) gone(table) "
               "needless(table)",
    "truest": "most_truthful(made) is_most_truthful(table) repaired(table) lies(table)",
    "keeping": "is_met(menu,chosen,wish) least_keeps(menu,wish)",
    "stepping": "longest_stepping(made,block,names) is_stepping(made,block,names,value) steppings(made,names) "
                "stepped(table,names)",
    "alikes": "alike_groups(tables)",
    "frames": "lies_now(made,stop,place)",
    "texts": "write_row(row) write_entry(entry) write_source(source) read_source(text)",
}

CLASSES = {
    "sources.Source": "__init__(self,blocks,inputs=()) blocks(self) __contains__(self,*) __len__(self) __getitem__(self,*) "
                      "rows(self,block) end(self,block) nexts(self,block) names(self) reached(self) __iter__(self) "
                      "__eq__(self,*)",
    "made.Made": "rows(self,block) returned(self,block) labels(self,block) stops(self,block) label(self,stop) "
                 "place_of(self,name) places(self) all_stops(self) __eq__(self,*) with_rows(self,block,rows,labels) "
                 "with_copy(self,stop,place,spare)",
    "players.Walk": "__init__(self,made,way) named(self,index) held(self,index) late(self,index) shown(self,stop,entry) "
                    "history(self,name,index) coming(self,name,index) returned(self)",
    "tables.Table": "__init__(self,made,rows=()) __getitem__(self,*) entry(self,stop,name) rows(self) __len__(self) "
                    "__iter__(self) __or__(self,*) __le__(self,*) without(self,stop,name) "
                    "with_entry(self,stop,name,entry) __call__(self,stop) __eq__(self,*)",
    "shapes.Shape": "__init__(self,value) value(self) all_marks(self) __len__(self) holds(self,one,other) "
                    "__contains__(self,*) __and__(self,*) __le__(self,*) __eq__(self,*)",
    "standing.Standing": "__init__(self,made) __getitem__(self,*) at(self,stop) up_to(self,block,most) __len__(self)",
    "keeping.Menu": "__init__(self,made,options=()) __len__(self) __getitem__(self,*) __contains__(self,*) __add__(self,*) "
                    "__iadd__(self,*) __call__(self,chosen) stays(self,chosen,stop) __eq__(self,*)",
    "alikes.Beside": "__init__(self,one,other) pairs(self) parting(self) is_alike(self) parts(self,block,label,name,way)",
    "frames.Stack": "__init__(self,frames) __len__(self) beneath(self,depth,place) shown(self,depth,name) "
                    "shown_names(self,depth)",
    "sessions.Session": "__init__(self,made) table(self) show(self,stop,name,entry) hide(self,stop,name) __len__(self) "
                        "undo(self) be_strict(self,value) trial(self) keep(self) attempt(self,visitor)",
    "console.Console": "__init__(self,made) run(self,line)",
}

ERRORS = {
    "BadRow": "index", "BadBlock": "index", "BadInput": "index", "BadLabels": "block", "BadStop": "stop", "BadWay": "index",
    "BadShown": "what", "BadValues": "count", "BadShape": "part", "BadMark": "mark", "BadOption": "option",
    "BadWish": "index", "BadTable": "which", "BadFrame": "frame", "BadText": "line", "BadLine": "line", "BadTruth": "truth",
    "Untrue": "what", "UnknownBlock": "block", "UnknownName": "name", "TooMany": "limit", "NothingToUndo": "name",
}


def split(text):
    """The tuples (name, parameters) of a text."""
    for part in text.split():
        name, _, inside = part.rstrip(")").partition("(")
        if inside.endswith("=("):
            inside += ")"
        yield name, [word for word in inside.split(",") if word]


class InterfaceTest(unittest.TestCase):
    def check(self, function, wanted, called):
        found = []
        for parameter in inspect.signature(function).parameters.values():
            self.assertEqual(parameter.kind, parameter.POSITIONAL_OR_KEYWORD, called)
            empty = parameter.default is parameter.empty
            found.append(parameter.name if empty else f"{parameter.name}={parameter.default!r}")
        self.assertEqual(len(found), len(wanted), called)
        for one, other in zip(found, wanted):
            self.assertTrue(other == "*" or one == other, (called, one, other))

    def test_functions(self):
        for module, text in FUNCTIONS.items():
            there = importlib.import_module(f"valueshown.{module}")
            for name, wanted in split(text):
                function = getattr(there, name)
                self.assertTrue(inspect.isfunction(function))
                self.assertEqual(function.__module__, f"valueshown.{module}")
                self.check(function, wanted, name)

    def test_classes(self):
        for path, text in CLASSES.items():
            module, name = path.split(".")
            cls = getattr(importlib.import_module(f"valueshown.{module}"), name)
            self.assertEqual(cls.__module__, f"valueshown.{module}")
            self.assertEqual(cls.__bases__, (object,))
            for method, wanted in split(text):
                self.assertIn(method, vars(cls), name)
                self.check(vars(cls)[method], wanted, (name, method))

    def test_static_methods_and_keywords(self):
        made = importlib.import_module("valueshown.made").Made
        shape = importlib.import_module("valueshown.shapes").Shape
        self.assertTrue(isinstance(vars(made)["plain"], staticmethod) and isinstance(vars(shape)["opening"], staticmethod))
        self.assertEqual(str(inspect.signature(made.plain)), "(source)")
        self.assertEqual(str(inspect.signature(shape.opening)), "(made)")
        self.assertEqual(str(inspect.signature(made)), "(source, blocks, labels, lies, *, entries=())")

    def test_errors(self):
        errors = importlib.import_module("valueshown.errors")
        for name, attribute in ERRORS.items():
            cls = getattr(errors, name)
            self.assertEqual(cls.__module__, "valueshown.errors")
            for value in (None, 5, [1], "x"):
                self.assertTrue(getattr(cls(value), attribute) is value)
                self.assertTrue(getattr(cls(**{attribute: value}), attribute) is value)
        base = errors.ShownError
        others = {"UnknownBlock": KeyError, "UnknownName": KeyError, "TooMany": OverflowError, "NothingToUndo": RuntimeError}
        for name in ERRORS:
            self.assertEqual(getattr(errors, name).__bases__, (others.get(name, base),))
        self.assertEqual(base.__bases__, (ValueError,))

    def test_every_file_of_the_document_is_there(self):
        for module in (
            "errors words sources made ways terms players tables shapes leads standing verdicts papers checker telling "
            "truest keeping stepping alikes frames texts sessions console"
        ).split():
            self.assertEqual(importlib.import_module(f"valueshown.{module}").__name__, f"valueshown.{module}")


if __name__ == "__main__":
    unittest.main()
