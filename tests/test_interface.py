"""Each function is there under its name, in its module, with its arguments as they are told."""

import importlib
import inspect
import unittest

INTERFACE = {
    "moments": "is_moment(thing) cut(moment, lamps) joined(one, other) all_moments(lamps)",
    "runs": "is_run(thing) fold(run, place) sign(run, place) rest(run, place) ahead(signs, run) dimmed(run, lamps) "
            "least(run) parting(one, other) thinned(run)",
    "sentences": "is_sentence(thing) words(sentence) lamps_of(sentence)",
    "plains": "denied(plain) plain(sentence)",
    "books": "book_of(some) unfolded(rows, spot) lamps_in(rows) waits(rows) hopes(rows)",
    "looks": "look(rows, moment, claims) claims_of(rows, view) all_claims(many) eased(rows, view)",
    "readings": "places_true(sentence, run) true_on(sentence, run) reading(rows, run) is_reading(rows, run, views)",
    "nets": "goes(net, node, stem, ring) is_paper(net, starts, rows)",
    "rings": "shut(net) ring_from(net, node)",
    "watchers": "watcher(sentence) takes(watcher, run)",
    "machines": "is_machine(thing) is_walk(machine, stem, ring) lit_along(machine, stem, ring) machine_of(run)",
    "held": "held(machine, sentence) shuts_out(machine, sentence, rows)",
    "frees": "claims_told(rows) possible(sentence) same(one, other) within(one, other)",
    "watch": "Watch(sentence)",
    "guards": "guard(sentence) closing(sentence)",
    "texts": "show_sentence(sentence) show_run(run) show_machine(machine) show_walk(stem, ring) "
             "read_sentence(text) read_run(text) read_machine(text)",
    "desk": "Desk()",
}
METHODS = {
    ("watch", "Watch"): "says(self) see(self, moment) goings(self) backs(self) seen(self)",
    ("desk", "Desk"): "say(self, row)",
}


class InterfaceTest(unittest.TestCase):
    def test_names_and_arguments(self):
        for module_name, told in INTERFACE.items():
            module = importlib.import_module("lassoscribe." + module_name)
            for form in told.replace(") ", ")\n").split("\n"):
                with self.subTest(module_name + "." + form):
                    name = form.partition("(")[0]
                    self.assertEqual(name + str(inspect.signature(getattr(module, name))), form)

    def test_methods_of_classes(self):
        for (module_name, class_name), told in METHODS.items():
            made = getattr(importlib.import_module("lassoscribe." + module_name), class_name)
            self.assertTrue(inspect.isclass(made))
            for form in told.replace(") ", ")\n").split("\n"):
                with self.subTest(class_name + "." + form):
                    name = form.partition("(")[0]
                    self.assertEqual(name + str(inspect.signature(getattr(made, name))), form)


if __name__ == "__main__":
    unittest.main()
