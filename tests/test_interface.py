"""The interface: each name stands in the file told, with the arguments told; and the sizes of the files."""

import ast
import importlib
import inspect
import os
import unittest

import casknotes

FOLDER = os.path.dirname(casknotes.__file__)

FUNCTIONS = {
    "names": {"is_name": "(thing)", "is_mark": "(thing)", "is_grains": "(thing)", "is_day": "(thing)",
              "mark_number": "(mark)"},
    "weights": {"read_weight": "(text)", "total": "(weights)"},
    "notes": {"by_age": "(notes)", "ranked": "(notes, rank=None)"},
    "casks": {"is_parts": "(thing)", "casks_by_age": "(casks)"},
    "drying": {"is_drying": "(thing)", "turns": "(day, until)", "dried": "(cask, drying, many=1)",
               "dried_weight": "(weight, ware, drying, many=1)"},
    "sums": {"sums_of": "(notes, stock)"},
    "sumchecks": {"sums_holds": "(notes, stock, thing)"},
    "takings": {"taking": "(casks, ware, grains)", "taking_holds": "(casks, ware, grains, thing)"},
    "shares": {"shares_of": "(loss, stock, notes)", "shares_holds": "(loss, stock, notes, thing)"},
    "joining": {"joined": "(one, other)"},
    "paying": {"few_notes": "(grains, due)"},
    "paychecks": {"few_holds": "(grains, due, thing)"},
    "deeds": {"is_deed": "(thing)", "done": "(store, day, deed)"},
    "booktexts": {"show_book": "(book)", "read_book": "(text)"},
    "findings": {"finding_holds": "(thing)"},
}

CLASSES = {
    "errors": {"NoText": "(row=0)", "Unknown": "(what)", "NoMark": "(what)", "NoNote": "(what)", "LostNote": "(what)",
               "Unborne": "(lacks)", "NotBorne": "(lacks)", "Short": "(lacks)", "Twice": "(what)", "TooLate": "(day)",
               "NoWare": "(ware)", "NoPlace": "(number)"},
    "weights": {"Weight": "(top, bottom=1)"},
    "notes": {"Note": "(name, ware, grains, born=0)"},
    "casks": {"Cask": "(mark, since, parts=None)"},
    "stores": {"Store": "(drying=None, day=0)"},
    "books": {"Book": "(drying=None)"},
    "desk": {"Desk": "(drying=None)"},
}

METHODS = {
    ("weights", "Weight"): {"plus": "(self, other)", "less": "(self, other)", "times": "(self, top, bottom=1)",
                            "is_below": "(self, other)", "is_nought": "(self)", "whole_up": "(self)"},
    ("notes", "Note"): {"__eq__": "(self, other)", "__str__": "(self)", "__repr__": "(self)"},
    ("casks", "Cask"): {"part": "(self, ware)", "weight_of": "(self, ware)", "lessened": "(self, ware, weight)",
                        "__eq__": "(self, other)", "__len__": "(self)", "__str__": "(self)", "__repr__": "(self)"},
    ("stores", "Store"): {"cask": "(self, day, mark, parts)", "weigh": "(self, day, mark, parts)",
                          "burn": "(self, day, mark, ware, weight)", "make": "(self, day, name, ware, grains)",
                          "part": "(self, day, name, pieces)", "merge": "(self, day, names, fresh)",
                          "lose": "(self, day, name, fresh)", "draw": "(self, day, name)",
                          "send": "(self, day, mark, first=None)", "pay": "(self, day, names, due, change=None)",
                          "fire": "(self, day, marks)", "today": "(self)", "casks": "(self)", "notes": "(self)",
                          "stock": "(self, ware, day=None)", "excess": "(self, day=None)",
                          "promised": "(self, ware)", "fate": "(self, name)", "__len__": "(self)",
                          "__eq__": "(self, other)"},
    ("books", "Book"): {"tell": "(self, day, deed)", "strike": "(self, number)", "deed": "(self, number)",
                        "store": "(self)", "results": "(self)", "__len__": "(self)", "__eq__": "(self, other)"},
    ("desk", "Desk"): {"say": "(self, row)"},
}


def module(name):
    return importlib.import_module("casknotes." + name)


def sources():
    """The name and the text of each file of the package."""
    names = sorted([name for name in os.listdir(FOLDER) if name != "__pycache__"])
    found = []
    for name in names:
        with open(os.path.join(FOLDER, name), encoding="utf-8") as file:
            found.append((name, file.read()))
    return found


class TestInterface(unittest.TestCase):
    def test_functions_and_classes(self):
        for table in [FUNCTIONS, CLASSES]:
            for file, rows in table.items():
                for name, arguments in rows.items():
                    with self.subTest(file=file, name=name):
                        thing = getattr(module(file), name)
                        self.assertEqual(str(inspect.signature(thing)), arguments)
                        self.assertEqual(thing.__module__, "casknotes." + file)

    def test_methods_stand_in_the_class_itself(self):
        for (file, name), rows in METHODS.items():
            for method, arguments in rows.items():
                with self.subTest(file=file, name=name, method=method):
                    found = vars(getattr(module(file), name))[method]
                    self.assertEqual(str(inspect.signature(found)), arguments)


class TestSizes(unittest.TestCase):
    def test_files_and_lines(self):
        for name, text in sources():
            with self.subTest(name):
                self.assertTrue(name.endswith(".py"))
                self.assertTrue(text.isascii() and "\t" not in text and "\r" not in text)
                self.assertLess(len(text.splitlines()), 400)
                self.assertLessEqual(max([len(line) for line in text.splitlines()]), 120)

    def test_functions(self):
        for name, text in sources():
            for part in ast.walk(ast.parse(text)):
                if isinstance(part, ast.FunctionDef):
                    with self.subTest(name, function=part.name):
                        self.assertLessEqual(part.end_lineno - part.lineno + 1, 40)


if __name__ == "__main__":
    unittest.main()
