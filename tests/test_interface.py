"""The names, the parameters and the files of the interface."""

import importlib
import inspect
import unittest

HEADINGS = {
    "words": {"parse_word": "(text)", "Word": "(width, value)"},
    "rows": {
        "row_number": "(row)", "number_row": "(number, count)", "all_rows": "(count)",
        "table_inputs": "(table)", "lookup": "(table, row)", "cofactor": "(table, index, bit)",
        "depends": "(table, index)", "arrange": "(table, places)",
    },
    "nets": {
        "is_name": "(text)", "is_wire": "(text)", "gate_value": "(op, bits)",
        "net_fault": "(net)", "check_net": "(net)", "wires": "(net)", "users": "(net, wire)",
        "is_taken": "(net, name)", "with_prefix": "(net, name)",
    },
    "design": {"design_fault": "(design)", "check_design": "(design)"},
    "reader": {
        "parse_design": "(text)", "design_text": "(design)", "parse_net": "(text)",
        "net_text": "(net)",
    },
    "flatten": {
        "flat_size": "(design, *, top=None)", "flatten": "(design, *, top=None)",
    },
    "order": {
        "find_order": "(net)", "is_order": "(net, order)", "find_ring": "(net)",
        "is_ring": "(net, ring)", "check_sound": "(net)", "depths": "(net)",
    },
}


class InterfaceTest(unittest.TestCase):
    def test_headings(self):
        for file, functions in HEADINGS.items():
            module = importlib.import_module(f"wirewatch.{file}")
            for name, heading in functions.items():
                with self.subTest(f"{file}.{name}"):
                    value = getattr(module, name)
                    self.assertEqual(str(inspect.signature(value)), heading)
                    self.assertEqual(value.__module__, module.__name__)

    def test_methods_of_words(self):
        word = importlib.import_module("wirewatch.words").Word
        headings = {"from_row": "(row)", "piece": "(self, start, count)", "above": "(self, low)",
                    "with_bit": "(self, index, bit)"}
        for name, heading in headings.items():
            self.assertEqual(str(inspect.signature(getattr(word, name))), heading)


if __name__ == "__main__":
    unittest.main()
