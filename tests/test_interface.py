"""The interface: each name is defined in the file under which it stands, with its arguments."""

import inspect
import unittest

from crywalks import (beats, counts, deeds, desk, ends, far, fractions, judge, keepers, knots, levels, onecries, papers,
                      rates, walks, webs, webtexts)

FUNCTIONS = {
    (webs, "is_name"): "(thing)",
    (webs, "is_count"): "(thing)",
    (webtexts, "web_text"): "(web)",
    (webtexts, "read_web"): "(text)",
    (beats, "beat"): "(web)",
    (beats, "set_next"): "(web)",
    (walks, "spot_at"): "(web, tie, place)",
    (walks, "turn_along"): "(web, tie, start, goal)",
    (walks, "walk_read"): "(web, walk)",
    (walks, "ring_read"): "(web, ring)",
    (counts, "count_behind"): "(web, spot, beats)",
    (counts, "cry_of"): "(web, spot, *, nth=1)",
    (counts, "state_behind"): "(web, spot, beats)",
    (counts, "counts_behind"): "(web, beats)",
    (far, "gone"): "(web, beats)",
    (papers, "paper_of"): "(web, person, beats)",
    (judge, "read_paper"): "(web, paper)",
    (judge, "shown_by"): "(web, person, beats, paper)",
    (levels, "levels_or_ring"): "(web, person)",
    (levels, "are_levels"): "(web, thing)",
    (ends, "does_end"): "(web, person)",
    (ends, "altogether"): "(web, spot)",
    (ends, "last_beat"): "(web, spot)",
    (fractions, "fraction"): "(upper, lower)",
    (fractions, "plus"): "(one, other)",
    (fractions, "minus"): "(one, other)",
    (fractions, "times"): "(one, other)",
    (fractions, "is_less"): "(one, other)",
    (fractions, "is_fraction"): "(thing)",
    (rates, "rate_of"): "(web, person)",
    (rates, "do_hold"): "(web, rate, thing)",
    (rates, "above_of"): "(web, person)",
    (deeds, "with_state"): "(web, person, state)",
    (deeds, "with_tie"): "(web, name, one, other, *, length=None)",
    (deeds, "without_tie"): "(web, tie)",
    (deeds, "with_length"): "(web, tie, length)",
    (deeds, "with_person"): "(web, name, *, state=0)",
    (deeds, "without_person"): "(web, person)",
    (onecries, "one_cries"): "(web, person)",
    (onecries, "ring_then"): "(web, person, beat)",
}
WEB_METHODS = {
    "__init__": "(self, persons, ties=(), *, rounds=False)",
    "rounds": "(self)",
    "persons": "(self)",
    "ties": "(self)",
    "has_person": "(self, thing)",
    "has_tie": "(self, thing)",
    "has_spot": "(self, thing)",
    "state": "(self, spot)",
    "ends": "(self, tie)",
    "length": "(self, tie)",
    "hearers": "(self, tie)",
    "beside": "(self, person)",
    "parts": "(self)",
    "part": "(self, person)",
    "__eq__": "(self, other)",
    "__len__": "(self)",
    "__repr__": "(self)",
}
KNOTS_METHODS = {
    "__init__": "(self, web)",
    "spots": "(self)",
    "least": "(self, one, other)",
}
KEEPER_METHODS = {
    "__init__": "(self, web)",
    "web": "(self)",
    "put": "(self, person, state)",
    "lay": "(self, name, one, other, *, length=None)",
    "cut": "(self, tie)",
    "stretch": "(self, tie, length)",
    "come": "(self, name, *, state=0)",
    "leave": "(self, person)",
    "go": "(self, beats=1)",
    "beats": "(self)",
    "sum_of": "(self, person)",
    "log": "(self)",
    "back": "(self, many=1)",
    "copied": "(self)",
    "__eq__": "(self, other)",
    "__len__": "(self)",
}
DESK_METHODS = {
    "__init__": "(self)",
    "say": "(self, row)",
}
CLASSES = ((webs, "Web", WEB_METHODS), (knots, "Knots", KNOTS_METHODS), (keepers, "Keeper", KEEPER_METHODS),
           (desk, "Desk", DESK_METHODS))


class Interface(unittest.TestCase):
    def test_functions(self):
        for (module, name), arguments in FUNCTIONS.items():
            with self.subTest(name=name):
                function = getattr(module, name)
                self.assertEqual(function.__module__, module.__name__)
                self.assertEqual(str(inspect.signature(function)), arguments)

    def test_methods_of_classes(self):
        for module, name, methods in CLASSES:
            kind = getattr(module, name)
            self.assertEqual(kind.__module__, module.__name__)
            for method, arguments in methods.items():
                with self.subTest(name=name, method=method):
                    self.assertEqual(str(inspect.signature(vars(kind)[method])), arguments)


if __name__ == "__main__":
    unittest.main()
