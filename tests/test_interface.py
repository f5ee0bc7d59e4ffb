"""That everything is there under the name, and with the arguments, that the document's interface tells."""

import importlib
import inspect
import unittest

FUNCTIONS = {
    "tables": ("table_of(things)", "sums_of_rows(table)", "sums_of_columns(table)", "turned_table(table)",
               "times_row(table, row)"),
    "terms": ("least_terms(table, bottom=1)",),
    "rows": ("falling(row)", "heads_of(row)", "bar_of(one, other)"),
    "steps": ("step_made(row, step)", "steps_to(one, other)"),
    "leads": ("lead_to(one, other)",),
    "dealings": ("dealing_in(marks)",),
    "mixes": ("is_even(table)", "told_by(pairs)", "mixture_of(table)"),
    "ones": ("ones_with(rows, columns)", "heap_of(sums, many)"),
    "swaps": ("swap_made(table, swap)", "swaps_between(one, other)"),
    "bounds": ("table_between(rows, columns, low, high)",),
    "fates": ("fate_of(rows, columns, cell)",),
    "rounds": ("rounded_table(table, bottom)",),
    "counts": ("count_of(rows, columns)", "shares_of(rows, columns)", "ones_at(rows, columns, number)",
               "number_of(table)"),
    "texts": ("read_table(text)", "show_table(table, bottom)"),
}
CLASSES = (
    "Paper()", "MixPaper(table, pairs)", "StepPaper(one, other, steps)", "BarPaper(one, other, k)",
    "LeadPaper(one, other, table)", "SumPaper(rows, columns, table)",
    "CutPaper(rows, columns, low, high, some, others)", "SwapPaper(one, other, swaps)",
    "RoundPaper(table, bottom, whole)", "PairPaper(first, second)",
)


def shown(thing):
    return thing.__name__ + str(inspect.signature(thing))


class Interface(unittest.TestCase):
    def test_functions(self):
        for module, functions in FUNCTIONS.items():
            home = importlib.import_module("evenmix." + module)
            for words in functions:
                thing = getattr(home, words.partition("(")[0])
                self.assertTrue(inspect.isfunction(thing))
                self.assertEqual(shown(thing), words)

    def test_papers(self):
        home = importlib.import_module("evenmix.papers")
        for words in CLASSES:
            thing = getattr(home, words.partition("(")[0])
            self.assertTrue(inspect.isclass(thing))
            self.assertEqual(shown(thing), words)
            self.assertEqual(shown(thing.holds), "holds(self)")


if __name__ == "__main__":
    unittest.main()
