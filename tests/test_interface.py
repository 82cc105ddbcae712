"""The names, the parameters and the files of the interface."""

import importlib
import inspect
import unittest

HEADINGS = {
    "words": {"parse_word": "(text)", "Word": "(width, value)"},
    "rows": {
        "row_number": "(row)", "number_row": "(number, count)", "all_rows": "(count)",
        "table_inputs": "(table)", "lookup": "(table, row)", "cofactor": "(table, index, bit)",
        "depends": "(table, index)", "arrange": "(table, places)",
    },
    "nets": {
        "is_name": "(text)", "is_wire": "(text)", "gate_value": "(op, bits)",
        "net_fault": "(net)", "check_net": "(net)", "wires": "(net)", "users": "(net, wire)",
        "is_taken": "(net, name)", "with_prefix": "(net, name)",
    },
    "design": {"design_fault": "(design)", "check_design": "(design)"},
    "reader": {
        "parse_design": "(text)", "design_text": "(design)", "parse_net": "(text)",
        "net_text": "(net)",
    },
    "flatten": {
        "flat_size": "(design, *, top=None)", "flatten": "(design, *, top=None)",
    },
    "order": {
        "find_order": "(net)", "is_order": "(net, order)", "find_ring": "(net)",
        "is_ring": "(net, ring)", "check_sound": "(net)", "depths": "(net)",
    },
    "logic": {
        "evaluate": "(net, row, state=())", "next_state": "(net, row, state=())",
        "output_row": "(net, row, state=())", "wire_table": "(net, wire)",
        "difference": "(first, second)", "is_difference": "(first, second, row, state)",
    },
    "diagrams": {
        "is_diagram": "(count, diagram)", "diagram_of": "(table)",
        "diagram_table": "(count, diagram)", "diagram_value": "(row, diagram)",
        "combine": "(count, op, first, second)", "restrict": "(count, diagram, index, bit)",
        "count_ones": "(count, diagram)", "least_row": "(count, diagram)",
        "canonical_net": "(net, *, name='n')",
    },
    "steps": {
        "local_table": "(net, wire)", "steps": "(net)", "apply_step": "(net, step)",
        "price": "(net)",
    },
    "rewrite": {
        "apply_chain": "(net, chain)", "trail": "(net, chain)",
        "is_chain": "(net, chain, result)", "is_settled": "(net)",
        "rewrite": "(net, *, limit=400)",
    },
    "runs": {"run": "(net, stimulus, *, state=None)", "Simulator": "(net, *, state=None)"},
    "timing": {
        "with_enable": "(net, name)", "with_reset": "(net, name)", "unroll": "(net, ticks)",
        "after_row": "(net, row)", "add_delay": "(net, wire, count, name)",
    },
    "joining": {
        "join_nets": "(first, second)", "with_outputs": "(net, names)", "cone": "(net, names)",
        "cut": "(net, wire, name)", "tie": "(net, port, wire)",
    },
    "patterns": {
        "pattern_fault": "(pattern)", "check_pattern": "(pattern)", "node_count": "(pattern)",
        "names_of": "(pattern)", "holds": "(pattern, view, start, end)",
        "stretches": "(pattern, view)",
        "flags": "(pattern, view, *, from_start=False, sticky=False)",
    },
    "pattern_text": {"pattern_text": "(pattern)", "parse_pattern": "(text)"},
    "machines": {
        "machine_fault": "(machine)", "check_machine": "(machine)",
        "state_after": "(machine, letters)", "accepts": "(machine, letters)",
        "least": "(machine)", "flip": "(machine)", "combine_machines": "(op, first, second)",
        "turn": "(machine)", "widen": "(machine, names)", "shortest_row": "(machine)",
        "telling_row": "(first, second)", "is_telling": "(first, second, letters)",
        "count_rows": "(machine, length)", "letters_of": "(view)",
    },
    "making": {
        "machine_of": "(pattern, *, names=None)",
        "flag_machine": "(pattern, *, names=None, from_start=False, sticky=False)",
    },
    "watch": {
        "watcher": "(machine, name, *, one_hot=False)",
        "attach": "(net, pattern, name, *, from_start=False, sticky=False, one_hot=False)",
        "plain_flags": "(net, pattern, stimulus, *, from_start=False, sticky=False)",
        "machine_flags": "(net, pattern, stimulus, *, from_start=False, sticky=False)",
        "machine_from": "(net, wire)",
    },
    "reach": {
        "levels": "(net)", "reached": "(net)", "path_to": "(net, state)",
        "is_path": "(net, stimulus, state)",
    },
    "always": {
        "never": "(net, wire)", "failing_run": "(net, wire)", "is_failing": "(net, wire, stimulus)",
        "safe_states": "(net, wire)", "is_invariant": "(net, wire, states)",
        "find_layers": "(net, wire)", "is_layers": "(net, wire, layers)", "rounds": "(net, wire)",
        "is_inductive": "(net, wire, count)", "run_difference": "(first, second)",
        "is_run_difference": "(first, second, stimulus)",
    },
    "moving": {
        "find_moves": "(net)", "move_forward": "(net, wire, name)",
        "move_back": "(net, wire, name)", "apply_moves": "(net, moves)",
    },
    "sharing": {
        "register_classes": "(net)", "is_register_classes": "(net, classes)",
        "merge_registers": "(net)", "share_gates": "(net)",
    },
    "stimuli": {
        "stimulus_text": "(inputs, stimulus)", "parse_stimulus": "(text)",
        "record_of": "(net, stimulus)", "record_text": "(record)", "parse_record": "(text)",
        "replay": "(net, record)", "reductions": "(stimulus)", "is_below": "(small, large)",
        "is_smallest": "(net, wire, stimulus)", "shrink": "(net, wire, stimulus)",
        "coverage": "(net, stimuli)",
    },
    "bench": {"Bench": "(net)"},
}

METHODS = {
    "words.Word": {
        "from_row": "(row)", "piece": "(self, start, count)", "above": "(self, low)",
        "with_bit": "(self, index, bit)",
    },
    "runs.Run": {"at": "(self, tick)", "state_at": "(self, tick)", "view": "(self, names)"},
    "runs.Simulator": {
        "put": "(self, state)", "step": "(self, row)", "peek": "(self, row, wire)",
        "back": "(self, count)",
    },
    "stimuli.Coverage": {},
    "bench.Bench": {
        "feed": "(self, row)",
        "watch": "(self, name, pattern, *, from_start=False, sticky=False)",
        "unwatch": "(self, name)", "flags": "(self, name)", "undo": "(self)", "redo": "(self)",
        "record": "(self)", "circuit": "(self, *, one_hot=False)", "coverage": "(self)",
        "undo_to": "(self, count)",
    },
}
# Each of these is defined in the class itself, as the methods above are.
OWN = {
    "words.Word": ("ones", "__and__", "__or__", "__xor__", "__add__", "__sub__", "__invert__",
                   "__lshift__", "__rshift__", "__eq__", "__ne__", "__len__", "__getitem__",
                   "__iter__", "__str__"),
    "runs.Run": ("last_state", "__len__", "__iter__", "__getitem__"),
    "runs.Simulator": ("state", "tick"),
    "stimuli.Coverage": ("__len__", "__contains__", "__or__", "__eq__", "__ne__"),
    "bench.Bench": ("stimulus", "current", "names", "done", "__len__", "__iter__", "__getitem__"),
}
PROPERTIES = (("words.Word", "ones"), ("runs.Run", "last_state"), ("runs.Simulator", "state"),
              ("runs.Simulator", "tick"), ("bench.Bench", "stimulus"), ("bench.Bench", "current"),
              ("bench.Bench", "names"), ("bench.Bench", "done"))


def class_of(place):
    file, _, name = place.partition(".")
    return getattr(importlib.import_module(f"wirewatch.{file}"), name)


class InterfaceTest(unittest.TestCase):
    def test_headings(self):
        for file, functions in HEADINGS.items():
            module = importlib.import_module(f"wirewatch.{file}")
            for name, heading in functions.items():
                with self.subTest(f"{file}.{name}"):
                    value = getattr(module, name)
                    self.assertEqual(str(inspect.signature(value)), heading)
                    self.assertEqual(value.__module__, module.__name__)

    def test_methods(self):
        for place, headings in METHODS.items():
            for name, heading in headings.items():
                with self.subTest(f"{place}.{name}"):
                    value = getattr(class_of(place), name)
                    self.assertEqual(str(inspect.signature(value)), heading)

    def test_methods_stand_in_their_classes(self):
        for place, names in OWN.items():
            for name in (*names, *METHODS[place]):
                self.assertIn(name, vars(class_of(place)), place)

    def test_properties(self):
        for place, name in PROPERTIES:
            self.assertIsInstance(vars(class_of(place))[name], property)

    def test_attributes(self):
        stimuli = importlib.import_module("wirewatch.stimuli")
        for found in (stimuli.coverage(((), (), (), ()), ()), stimuli.coverage((("a",), (), (), ()), ((),))):
            for name in ("seen", "missing", "visited"):
                self.assertIn(name, vars(found))


if __name__ == "__main__":
    unittest.main()
